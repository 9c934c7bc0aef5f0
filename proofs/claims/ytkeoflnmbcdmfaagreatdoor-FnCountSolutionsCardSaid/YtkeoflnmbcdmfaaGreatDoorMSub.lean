import Derived.Test.YtkeoflnmbcdmfaaGreatDoorMSix
import Derived.Test.YtkeoflnmbcdmfaaGreatDoorC3
import Derived.Test.YtkeoflnmbcdmfaaGreatDoorC3G
import Derived.Test.YtkeoflnmbcdmfaaGreatDoorC1L
import Derived.Test.YtkeoflnmbcdmfaaGreatDoorMSol
set_option maxRecDepth 8000
namespace Go.Proofs.YtkeoflnmbcdmfaaGreatDoor
open Go.ChangeShapes Go.WideShapes Go.ChangeAt Go.RowKit
theorem Ow.putN {w:World} {lo g n c:Nat} {xs:List Int} (h:Ow w lo (some ⟨g,0,none⟩) n c xs) (k:Nat) (v:Int):Ow (w.setCell ⟨g,k,none⟩ (.int .i64 v)) lo (some ⟨g,0,none⟩) n c (xs.set k v):=by
 have:=(World.ownsRow.stored h k (.int .i64 v)).1;rw [vals_set] at this;exact this
def seesB (s k i:Nat):Bool:=(k != i)&&(k/s==i/s||k%s==i%s)
def nsIn (m:List Int) (s i:Nat) (o:List Int):Nat->List Int
 |0=>o
 |k+1=>if seesB s k i=true then (nsIn m s i o k).set k (bits .andNot .i64 (nth (nsIn m s i o k) k) (nth m i)) else nsIn m s i o k
def nsTo (m:List Int) (s n:Nat):Nat->List Int
 |0=>m
 |i+1=>if (maskVals (nth m i)).length=1 then nsIn m s i (nsTo m s n i) n else nsTo m s n i
def nsL (m:List Int) (s:Int) (n:Nat):List Int:=if mvd m s=true then nsTo m s.toNat n n else []
theorem nsIn_len (m:List Int) (s i:Nat) (o:List Int) (k:Nat):(nsIn m s i o k).length=o.length:=by
 induction k with
 |zero=>rfl
 |succ k ih=>
  simp only [nsIn]
  split
  ·rw [List.length_set,ih]
  ·exact ih
theorem nsTo_len (m:List Int) (s n i:Nat):(nsTo m s n i).length=m.length:=by
 induction i with
 |zero=>rfl
 |succ i ih=>
  simp only [nsTo]
  split
  ·rw [nsIn_len,ih]
  ·exact ih
set_option maxHeartbeats 4000000 in
theorem specNarrowSingles (A:Option Addr) (c n B:Nat) (m:List Int) (s:Int) (w:World) (h:Rd w B A n m) (hB:B<=w.heap.size) (hm:n<=1099511627776) (hsb: -9223372036854775808<=s/\s<=9223372036854775807) (h64:Hid (∀ k,k<n-> -9223372036854775808<=nth m k/\nth m k<=9223372036854775807)):
 Calls Tryz.prog 142 #[.slice A n c,.int .i64 s] w (RetSl w (nsL m s n)):=by
 have hlen:=Lib.hid h.1;have HV:=Lib.hid (specMasksValid A c n B m s w h hB hm hsb);cases hv:mvd m s
 ·have HL:=Lib.hid (show nsL m s n=[] by simp [nsL,hv])
  go_enter Tryz.func142,Tryz.ntmps142
  go_wp2_with (go_at_call 127;refine HV.out.mono ?_;rintro e w1 ⟨rfl,hb1⟩;rw [hv])
  go_ret
  rw [HL.out];exact ⟨_,_,rfl,Ow.made0 _ _ hb1.size,hb1.alloc hb1.size _⟩
 ·have hs24:inr s 2 4=true:=by
   simp only [mvd,Bool.and_eq_true] at hv;exact hv.1.1
  obtain ⟨h2,h4⟩:=inr_t hs24
  have hs3:s=2\/s=3\/s=4:=by omega
  clear hs24 h2 h4;have HCp:=Lib.hid (fun w' (hb:Below w.heap.size w w')=>specL6Copy A n c B m w' (h.below (hb.mono hB)) (Nat.le_trans hB hb.size) hm)
  rcases hs3 with rfl|rfl|rfl
  ·have HL:=Lib.hid (show nsL m 2 n=nsTo m 2 n n by simp [nsL,hv]);have Hv:=Lib.hid hv;clear hv
   go_enter Tryz.func142,Tryz.ntmps142
   go_wp2_with (first
    |(go_at_call 127;refine HV.out.mono ?_;rintro e w1 ⟨rfl,hb1⟩;rw [Hv.out])
    |(go_at_call 128;refine (HCp.out _ hb1).mono ?_;rintro e w2 ⟨Ac,cc,rfl,ho2,hb2⟩))
   have hb12:=step hb1 hb2;have ho2':=ho2.mono hb1.size
   go_loopw [6] (fun i wr=>∃ u:Nat,u<=n/\i=.int .i64 u/\Ow wr w.heap.size Ac n cc (nsTo m 2 n u)/\Below w.heap.size w wr) (fun i _=>n-(intOf i).toNat)
   case atStart=>exact ⟨0,Nat.zero_le _,rfl,ho2',hb12⟩
   case round=>
    obtain ⟨u,hu,rfl,ho,hb⟩:=hrel
    by_cases hlt:u<n
    ·obtain ⟨b,off,hA,hbB,hck⟩:=(h.below (hb.mono hB)).at_ hlt;subst hA;have hbw:b<w.heap.size:=Nat.lt_of_lt_of_le hbB hB;have hbwr:b<wr.heap.size:=Nat.lt_of_lt_of_le hbw hb.size;obtain ⟨g,rfl,hgl,hgw⟩:=ho.form (by omega);have HMv:=Lib.hid (specMaskValues (nth m u) wr (h64.out u hlt));obtain ⟨q,hq⟩:∃ q,q=(maskVals (nth m u)).length:=⟨_,rfl⟩;have Hq:=Lib.hid hq;have HMv2:Hid (Calls Tryz.prog 129 #[.int .i64 (nth m u)] wr fun e w''=>∃ A3 c3,e=.returned (.slice A3 q c3)/\Below wr.heap.size wr w''):=Lib.hid (HMv.out.mono (by rintro e w'' ⟨A3,c3,rfl,_,hb3⟩;exact ⟨A3,c3,by rw [hq],hb3⟩))
     clear hq HMv;have hsw:=hb.size
     by_cases h1:q=1
     ·have hq1:((q:Int) != 1)=false:=(by simp [h1]);have Hs:=Lib.hid (show nsTo m 2 n (u+1)=nsIn m 2 u (nsTo m 2 n u) n by simp only [nsTo];rw [if_pos (by rw [<- Hq.out];exact h1)]);clear h1
      go_wp2_with (go_at_call 129;refine HMv2.out.mono ?_;rintro e w3 ⟨A3,c3,rfl,hb3⟩)
      have ho3:=ho.below hb3;have hb03:=hb.trans (hb3.mono hsw)
      go_loopw [7] (fun j wr=>∃ k:Nat,k<=n/\j=.int .i64 k/\Ow wr w.heap.size (some ⟨g,0,none⟩) n cc (nsIn m 2 u (nsTo m 2 n u) k)/\Below w.heap.size w wr) (fun j _=>n-(intOf j).toNat)
      case atStart=>exact ⟨0,Nat.zero_le _,rfl,ho3,hb03⟩
      case round=>
       clear ho3 hb03 hck;obtain ⟨k,hk,rfl,hok,hbk⟩:=hrel
       by_cases hkn:k<n
       ·have hck:wr.cell? ⟨b,off+u,none⟩=some (.int .i64 (nth m u)):=by
         obtain ⟨b',off',hA',_,hck'⟩:=(h.below (hbk.mono hB)).at_ hlt;cases hA';exact hck'
        obtain ⟨hcell,hfr⟩:=hok.cell hkn;have hsk:=hbk.size;have hput:=Lib.hid (hok.putN k (bits .andNot .i64 (nth (nsIn m 2 u (nsTo m 2 n u) k) k) (nth m u)))
        by_cases e1:k=u
        ·have f1:((k:Int) != (u:Int))=false:=(by simp [e1]);have Hk:=Lib.hid (show nsIn m 2 u (nsTo m 2 n u) (k+1)=nsIn m 2 u (nsTo m 2 n u) k by simp [nsIn,seesB,e1]);clear e1
         go_wp2
         go_quiet (fail)
         go_wp2
         go_roundw
         case rel=>exact ⟨k+1,by omega,by go_num,by rw [Hk.out];exact hok,below_drewN hbk _⟩
         case measure=>simp [intOf];omega
        ·have f1:((k:Int) != (u:Int))=true:=(by simp;omega)
         by_cases e2:k/2=u/2\/k%2=u%2
         ·have Hk:=Lib.hid (show nsIn m 2 u (nsTo m 2 n u) (k+1)=(nsIn m 2 u (nsTo m 2 n u) k).set k (bits .andNot .i64 (nth (nsIn m 2 u (nsTo m 2 n u) k) k) (nth m u)) by simp [nsIn,seesB,e1,e2])
          by_cases e3:k/2=u/2
          ·have f2:((k:Int)/2==(u:Int)/2)=true:=(by simp;omega);clear e1 e2 e3
           go_wp2
           go_quiet (fail)
           go_wp2
           go_region
           go_wp2
           go_roundw
           case rel=>exact ⟨k+1,by omega,by go_num,by rw [Hk.out];exact hput.out,Below.setCell (p:=(⟨g,k,none⟩:Addr)) (below_drewN hbk _) hgl _⟩
           case measure=>simp [intOf];omega
          ·have f2:((k:Int)/2==(u:Int)/2)=false:=(by simp;omega);have f3:((k:Int)%2==(u:Int)%2)=true:=(by simp;omega);clear e1 e2 e3
           go_wp2
           go_quiet (fail)
           go_wp2
           go_region
           go_wp2
           go_roundw
           case rel=>exact ⟨k+1,by omega,by go_num,by rw [Hk.out];exact hput.out,Below.setCell (p:=(⟨g,k,none⟩:Addr)) (below_drewN hbk _) hgl _⟩
           case measure=>simp [intOf];omega
         ·have f2:((k:Int)/2==(u:Int)/2)=false:=(by simp;omega);have f3:((k:Int)%2==(u:Int)%2)=false:=(by simp;omega)
          have Hk:=Lib.hid (show nsIn m 2 u (nsTo m 2 n u) (k+1)=nsIn m 2 u (nsTo m 2 n u) k by
           have e4:¬ k/2=u/2:=fun e=>e2 (.inl e)
           have e5:¬ k%2=u%2:=fun e=>e2 (.inr e)
           simp [nsIn,seesB,e4,e5])
          clear e1 e2
          go_wp2
          go_quiet (fail)
          go_wp2
          go_roundw
          case rel=>exact ⟨k+1,by omega,by go_num,by rw [Hk.out];exact hok,below_drewN hbk _⟩
          case measure=>simp [intOf];omega
       ·obtain rfl:k=n:=by omega
        go_wp2
        go_roundw
        case rel=>exact ⟨u+1,by omega,by go_num,by rw [Hs.out];exact hok,hbk⟩
        case measure=>simp [intOf];omega
     ·have hq1:((q:Int) != 1)=true:=(by simp;omega);have Hs:=Lib.hid (show nsTo m 2 n (u+1)=nsTo m 2 n u by simp only [nsTo];rw [if_neg (by rw [<- Hq.out];exact h1)])
      go_wp2_with (go_at_call 129;refine HMv2.out.mono ?_;rintro e w3 ⟨A3,c3,rfl,hb3⟩)
      go_roundw
      case rel=>exact ⟨u+1,by omega,by go_num,by rw [Hs.out];exact ho.below hb3,hb.trans (hb3.mono hsw)⟩
      case measure=>simp [intOf];omega
    ·obtain rfl:u=n:=by omega
     go_wp2
     go_ret
     rw [HL.out];have hnl:=Lib.hid (nsTo_len m 2 u u);exact ⟨_,_,by rw [hnl.out,hlen.out];rfl,by rw [hnl.out,hlen.out];exact ho,hb⟩
  ·have HL:=Lib.hid (show nsL m 3 n=nsTo m 3 n n by simp [nsL,hv]);have Hv:=Lib.hid hv;clear hv
   go_enter Tryz.func142,Tryz.ntmps142
   go_wp2_with (first
    |(go_at_call 127;refine HV.out.mono ?_;rintro e w1 ⟨rfl,hb1⟩;rw [Hv.out])
    |(go_at_call 128;refine (HCp.out _ hb1).mono ?_;rintro e w2 ⟨Ac,cc,rfl,ho2,hb2⟩))
   have hb12:=step hb1 hb2;have ho2':=ho2.mono hb1.size
   go_loopw [6] (fun i wr=>∃ u:Nat,u<=n/\i=.int .i64 u/\Ow wr w.heap.size Ac n cc (nsTo m 3 n u)/\Below w.heap.size w wr) (fun i _=>n-(intOf i).toNat)
   case atStart=>exact ⟨0,Nat.zero_le _,rfl,ho2',hb12⟩
   case round=>
    obtain ⟨u,hu,rfl,ho,hb⟩:=hrel
    by_cases hlt:u<n
    ·obtain ⟨b,off,hA,hbB,hck⟩:=(h.below (hb.mono hB)).at_ hlt;subst hA;have hbw:b<w.heap.size:=Nat.lt_of_lt_of_le hbB hB;have hbwr:b<wr.heap.size:=Nat.lt_of_lt_of_le hbw hb.size;obtain ⟨g,rfl,hgl,hgw⟩:=ho.form (by omega);have HMv:=Lib.hid (specMaskValues (nth m u) wr (h64.out u hlt));obtain ⟨q,hq⟩:∃ q,q=(maskVals (nth m u)).length:=⟨_,rfl⟩;have Hq:=Lib.hid hq;have HMv2:Hid (Calls Tryz.prog 129 #[.int .i64 (nth m u)] wr fun e w''=>∃ A3 c3,e=.returned (.slice A3 q c3)/\Below wr.heap.size wr w''):=Lib.hid (HMv.out.mono (by rintro e w'' ⟨A3,c3,rfl,_,hb3⟩;exact ⟨A3,c3,by rw [hq],hb3⟩))
     clear hq HMv;have hsw:=hb.size
     by_cases h1:q=1
     ·have hq1:((q:Int) != 1)=false:=(by simp [h1]);have Hs:=Lib.hid (show nsTo m 3 n (u+1)=nsIn m 3 u (nsTo m 3 n u) n by simp only [nsTo];rw [if_pos (by rw [<- Hq.out];exact h1)]);clear h1
      go_wp2_with (go_at_call 129;refine HMv2.out.mono ?_;rintro e w3 ⟨A3,c3,rfl,hb3⟩)
      have ho3:=ho.below hb3;have hb03:=hb.trans (hb3.mono hsw)
      go_loopw [7] (fun j wr=>∃ k:Nat,k<=n/\j=.int .i64 k/\Ow wr w.heap.size (some ⟨g,0,none⟩) n cc (nsIn m 3 u (nsTo m 3 n u) k)/\Below w.heap.size w wr) (fun j _=>n-(intOf j).toNat)
      case atStart=>exact ⟨0,Nat.zero_le _,rfl,ho3,hb03⟩
      case round=>
       clear ho3 hb03 hck;obtain ⟨k,hk,rfl,hok,hbk⟩:=hrel
       by_cases hkn:k<n
       ·have hck:wr.cell? ⟨b,off+u,none⟩=some (.int .i64 (nth m u)):=by
         obtain ⟨b',off',hA',_,hck'⟩:=(h.below (hbk.mono hB)).at_ hlt;cases hA';exact hck'
        obtain ⟨hcell,hfr⟩:=hok.cell hkn;have hsk:=hbk.size;have hput:=Lib.hid (hok.putN k (bits .andNot .i64 (nth (nsIn m 3 u (nsTo m 3 n u) k) k) (nth m u)))
        by_cases e1:k=u
        ·have f1:((k:Int) != (u:Int))=false:=(by simp [e1]);have Hk:=Lib.hid (show nsIn m 3 u (nsTo m 3 n u) (k+1)=nsIn m 3 u (nsTo m 3 n u) k by simp [nsIn,seesB,e1]);clear e1
         go_wp2
         go_quiet (fail)
         go_wp2
         go_roundw
         case rel=>exact ⟨k+1,by omega,by go_num,by rw [Hk.out];exact hok,below_drewN hbk _⟩
         case measure=>simp [intOf];omega
        ·have f1:((k:Int) != (u:Int))=true:=(by simp;omega)
         by_cases e2:k/3=u/3\/k%3=u%3
         ·have Hk:=Lib.hid (show nsIn m 3 u (nsTo m 3 n u) (k+1)=(nsIn m 3 u (nsTo m 3 n u) k).set k (bits .andNot .i64 (nth (nsIn m 3 u (nsTo m 3 n u) k) k) (nth m u)) by simp [nsIn,seesB,e1,e2])
          by_cases e3:k/3=u/3
          ·have f2:((k:Int)/3==(u:Int)/3)=true:=(by simp;omega);clear e1 e2 e3
           go_wp2
           go_quiet (fail)
           go_wp2
           go_region
           go_wp2
           go_roundw
           case rel=>exact ⟨k+1,by omega,by go_num,by rw [Hk.out];exact hput.out,Below.setCell (p:=(⟨g,k,none⟩:Addr)) (below_drewN hbk _) hgl _⟩
           case measure=>simp [intOf];omega
          ·have f2:((k:Int)/3==(u:Int)/3)=false:=(by simp;omega);have f3:((k:Int)%3==(u:Int)%3)=true:=(by simp;omega);clear e1 e2 e3
           go_wp2
           go_quiet (fail)
           go_wp2
           go_region
           go_wp2
           go_roundw
           case rel=>exact ⟨k+1,by omega,by go_num,by rw [Hk.out];exact hput.out,Below.setCell (p:=(⟨g,k,none⟩:Addr)) (below_drewN hbk _) hgl _⟩
           case measure=>simp [intOf];omega
         ·have f2:((k:Int)/3==(u:Int)/3)=false:=(by simp;omega);have f3:((k:Int)%3==(u:Int)%3)=false:=(by simp;omega)
          have Hk:=Lib.hid (show nsIn m 3 u (nsTo m 3 n u) (k+1)=nsIn m 3 u (nsTo m 3 n u) k by
           have e4:¬ k/3=u/3:=fun e=>e2 (.inl e)
           have e5:¬ k%3=u%3:=fun e=>e2 (.inr e)
           simp [nsIn,seesB,e4,e5])
          clear e1 e2
          go_wp2
          go_quiet (fail)
          go_wp2
          go_roundw
          case rel=>exact ⟨k+1,by omega,by go_num,by rw [Hk.out];exact hok,below_drewN hbk _⟩
          case measure=>simp [intOf];omega
       ·obtain rfl:k=n:=by omega
        go_wp2
        go_roundw
        case rel=>exact ⟨u+1,by omega,by go_num,by rw [Hs.out];exact hok,hbk⟩
        case measure=>simp [intOf];omega
     ·have hq1:((q:Int) != 1)=true:=(by simp;omega);have Hs:=Lib.hid (show nsTo m 3 n (u+1)=nsTo m 3 n u by simp only [nsTo];rw [if_neg (by rw [<- Hq.out];exact h1)])
      go_wp2_with (go_at_call 129;refine HMv2.out.mono ?_;rintro e w3 ⟨A3,c3,rfl,hb3⟩)
      go_roundw
      case rel=>exact ⟨u+1,by omega,by go_num,by rw [Hs.out];exact ho.below hb3,hb.trans (hb3.mono hsw)⟩
      case measure=>simp [intOf];omega
    ·obtain rfl:u=n:=by omega
     go_wp2
     go_ret
     rw [HL.out];have hnl:=Lib.hid (nsTo_len m 3 u u);exact ⟨_,_,by rw [hnl.out,hlen.out];rfl,by rw [hnl.out,hlen.out];exact ho,hb⟩
  ·have HL:=Lib.hid (show nsL m 4 n=nsTo m 4 n n by simp [nsL,hv]);have Hv:=Lib.hid hv;clear hv
   go_enter Tryz.func142,Tryz.ntmps142
   go_wp2_with (first
    |(go_at_call 127;refine HV.out.mono ?_;rintro e w1 ⟨rfl,hb1⟩;rw [Hv.out])
    |(go_at_call 128;refine (HCp.out _ hb1).mono ?_;rintro e w2 ⟨Ac,cc,rfl,ho2,hb2⟩))
   have hb12:=step hb1 hb2;have ho2':=ho2.mono hb1.size
   go_loopw [6] (fun i wr=>∃ u:Nat,u<=n/\i=.int .i64 u/\Ow wr w.heap.size Ac n cc (nsTo m 4 n u)/\Below w.heap.size w wr) (fun i _=>n-(intOf i).toNat)
   case atStart=>exact ⟨0,Nat.zero_le _,rfl,ho2',hb12⟩
   case round=>
    obtain ⟨u,hu,rfl,ho,hb⟩:=hrel
    by_cases hlt:u<n
    ·obtain ⟨b,off,hA,hbB,hck⟩:=(h.below (hb.mono hB)).at_ hlt;subst hA;have hbw:b<w.heap.size:=Nat.lt_of_lt_of_le hbB hB;have hbwr:b<wr.heap.size:=Nat.lt_of_lt_of_le hbw hb.size;obtain ⟨g,rfl,hgl,hgw⟩:=ho.form (by omega);have HMv:=Lib.hid (specMaskValues (nth m u) wr (h64.out u hlt));obtain ⟨q,hq⟩:∃ q,q=(maskVals (nth m u)).length:=⟨_,rfl⟩;have Hq:=Lib.hid hq;have HMv2:Hid (Calls Tryz.prog 129 #[.int .i64 (nth m u)] wr fun e w''=>∃ A3 c3,e=.returned (.slice A3 q c3)/\Below wr.heap.size wr w''):=Lib.hid (HMv.out.mono (by rintro e w'' ⟨A3,c3,rfl,_,hb3⟩;exact ⟨A3,c3,by rw [hq],hb3⟩))
     clear hq HMv;have hsw:=hb.size
     by_cases h1:q=1
     ·have hq1:((q:Int) != 1)=false:=(by simp [h1]);have Hs:=Lib.hid (show nsTo m 4 n (u+1)=nsIn m 4 u (nsTo m 4 n u) n by simp only [nsTo];rw [if_pos (by rw [<- Hq.out];exact h1)]);clear h1
      go_wp2_with (go_at_call 129;refine HMv2.out.mono ?_;rintro e w3 ⟨A3,c3,rfl,hb3⟩)
      have ho3:=ho.below hb3;have hb03:=hb.trans (hb3.mono hsw)
      go_loopw [7] (fun j wr=>∃ k:Nat,k<=n/\j=.int .i64 k/\Ow wr w.heap.size (some ⟨g,0,none⟩) n cc (nsIn m 4 u (nsTo m 4 n u) k)/\Below w.heap.size w wr) (fun j _=>n-(intOf j).toNat)
      case atStart=>exact ⟨0,Nat.zero_le _,rfl,ho3,hb03⟩
      case round=>
       clear ho3 hb03 hck;obtain ⟨k,hk,rfl,hok,hbk⟩:=hrel
       by_cases hkn:k<n
       ·have hck:wr.cell? ⟨b,off+u,none⟩=some (.int .i64 (nth m u)):=by
         obtain ⟨b',off',hA',_,hck'⟩:=(h.below (hbk.mono hB)).at_ hlt;cases hA';exact hck'
        obtain ⟨hcell,hfr⟩:=hok.cell hkn;have hsk:=hbk.size;have hput:=Lib.hid (hok.putN k (bits .andNot .i64 (nth (nsIn m 4 u (nsTo m 4 n u) k) k) (nth m u)))
        by_cases e1:k=u
        ·have f1:((k:Int) != (u:Int))=false:=(by simp [e1]);have Hk:=Lib.hid (show nsIn m 4 u (nsTo m 4 n u) (k+1)=nsIn m 4 u (nsTo m 4 n u) k by simp [nsIn,seesB,e1]);clear e1
         go_wp2
         go_quiet (fail)
         go_wp2
         go_roundw
         case rel=>exact ⟨k+1,by omega,by go_num,by rw [Hk.out];exact hok,below_drewN hbk _⟩
         case measure=>simp [intOf];omega
        ·have f1:((k:Int) != (u:Int))=true:=(by simp;omega)
         by_cases e2:k/4=u/4\/k%4=u%4
         ·have Hk:=Lib.hid (show nsIn m 4 u (nsTo m 4 n u) (k+1)=(nsIn m 4 u (nsTo m 4 n u) k).set k (bits .andNot .i64 (nth (nsIn m 4 u (nsTo m 4 n u) k) k) (nth m u)) by simp [nsIn,seesB,e1,e2])
          by_cases e3:k/4=u/4
          ·have f2:((k:Int)/4==(u:Int)/4)=true:=(by simp;omega);clear e1 e2 e3
           go_wp2
           go_quiet (fail)
           go_wp2
           go_region
           go_wp2
           go_roundw
           case rel=>exact ⟨k+1,by omega,by go_num,by rw [Hk.out];exact hput.out,Below.setCell (p:=(⟨g,k,none⟩:Addr)) (below_drewN hbk _) hgl _⟩
           case measure=>simp [intOf];omega
          ·have f2:((k:Int)/4==(u:Int)/4)=false:=(by simp;omega);have f3:((k:Int)%4==(u:Int)%4)=true:=(by simp;omega);clear e1 e2 e3
           go_wp2
           go_quiet (fail)
           go_wp2
           go_region
           go_wp2
           go_roundw
           case rel=>exact ⟨k+1,by omega,by go_num,by rw [Hk.out];exact hput.out,Below.setCell (p:=(⟨g,k,none⟩:Addr)) (below_drewN hbk _) hgl _⟩
           case measure=>simp [intOf];omega
         ·have f2:((k:Int)/4==(u:Int)/4)=false:=(by simp;omega);have f3:((k:Int)%4==(u:Int)%4)=false:=(by simp;omega)
          have Hk:=Lib.hid (show nsIn m 4 u (nsTo m 4 n u) (k+1)=nsIn m 4 u (nsTo m 4 n u) k by
           have e4:¬ k/4=u/4:=fun e=>e2 (.inl e)
           have e5:¬ k%4=u%4:=fun e=>e2 (.inr e)
           simp [nsIn,seesB,e4,e5])
          clear e1 e2
          go_wp2
          go_quiet (fail)
          go_wp2
          go_roundw
          case rel=>exact ⟨k+1,by omega,by go_num,by rw [Hk.out];exact hok,below_drewN hbk _⟩
          case measure=>simp [intOf];omega
       ·obtain rfl:k=n:=by omega
        go_wp2
        go_roundw
        case rel=>exact ⟨u+1,by omega,by go_num,by rw [Hs.out];exact hok,hbk⟩
        case measure=>simp [intOf];omega
     ·have hq1:((q:Int) != 1)=true:=(by simp;omega);have Hs:=Lib.hid (show nsTo m 4 n (u+1)=nsTo m 4 n u by simp only [nsTo];rw [if_neg (by rw [<- Hq.out];exact h1)])
      go_wp2_with (go_at_call 129;refine HMv2.out.mono ?_;rintro e w3 ⟨A3,c3,rfl,hb3⟩)
      go_roundw
      case rel=>exact ⟨u+1,by omega,by go_num,by rw [Hs.out];exact ho.below hb3,hb.trans (hb3.mono hsw)⟩
      case measure=>simp [intOf];omega
    ·obtain rfl:u=n:=by omega
     go_wp2
     go_ret
     rw [HL.out];have hnl:=Lib.hid (nsTo_len m 4 u u);exact ⟨_,_,by rw [hnl.out,hlen.out];rfl,by rw [hnl.out,hlen.out];exact ho,hb⟩
end Go.Proofs.YtkeoflnmbcdmfaaGreatDoor
set_option maxRecDepth 8000
namespace Go.Proofs.YtkeoflnmbcdmfaaGreatDoor
open Go.ChangeShapes Go.WideShapes Go.ChangeAt Go.RowKit
def hB (m:List Int) (S u:Int) (v k:Nat):Bool:=(nth m (lineAt S u k).toNat).toNat.testBit v
def hC (m:List Int) (S u:Int) (v:Nat):Nat->Nat
 |0=>0
 |k+1=>if hB m S u v k=true then hC m S u v k+1 else hC m S u v k
def hL (m:List Int) (S u:Int) (v:Nat):Nat->Nat
 |0=>0
 |k+1=>if hB m S u v k=true then (lineAt S u k).toNat else hL m S u v k
def hVs (m:List Int) (S:Int) (N:Nat) (u:Int) (o:List Int):Nat->List Int
 |0=>o
 |r+1=>if hC m S u (r+1) N=1 then (hVs m S N u o r).set (hL m S u (r+1) N) (bits .and .i64 (nth (hVs m S N u o r) (hL m S u (r+1) N)) (2^(r+1))) else hVs m S N u o r
def hU (m:List Int) (S:Int) (N:Nat):Nat->List Int
 |0=>m
 |u+1=>hVs m S N u (hU m S N u) N
def nhL (m:List Int) (S:Int):List Int:=if mvd m S=true then hU m S S.toNat (2*S.toNat) else []
theorem hC_le (m:List Int) (S u:Int) (v k:Nat):hC m S u v k<=k:=by
 induction k with
 |zero=>exact Nat.le_refl _
 |succ k ih=>simp only [hC];split<;>omega
theorem hL_lt {m:List Int} {S u:Int} {v n k:Nat} (h:∀ j,j<k->(lineAt S u j).toNat<n) (h0:0<n):hL m S u v k<n:=by
 induction k with
 |zero=>exact h0
 |succ k ih=>
  simp only [hL]
  split
  ·exact h k (by omega)
  ·exact ih (fun j hj=>h j (by omega))
theorem hVs_len (m:List Int) (S:Int) (N:Nat) (u:Int) (o:List Int) (r:Nat):(hVs m S N u o r).length=o.length:=by
 induction r with
 |zero=>rfl
 |succ r ih=>
  simp only [hVs]
  split
  ·rw [List.length_set,ih]
  ·exact ih
theorem hU_len (m:List Int) (S:Int) (N u:Nat):(hU m S N u).length=m.length:=by
 induction u with
 |zero=>rfl
 |succ u ih=>simp only [hU];rw [hVs_len,ih]
theorem pow_wrap5 {r:Nat} (h:r<4):wrap64 ((2:Int)^(r+1))=2^(r+1):=by
 have:r=0\/r=1\/r=2\/r=3:=by omega
 rcases this with rfl|rfl|rfl|rfl<;>exact IntWalk.wrap64_in _ ⟨by decide,by decide⟩
set_option maxHeartbeats 8000000 in
theorem specNarrowHidden (A:Option Addr) (c n B:Nat) (m:List Int) (s:Int) (w:World) (h:Rd w B A n m) (hB':B<=w.heap.size) (hm:n<=1099511627776) (hsb: -9223372036854775808<=s/\s<=9223372036854775807):
 Calls Tryz.prog 143 #[.slice A n c,.int .i64 s] w (RetSl w (nhL m s)):=by
 have hlen:=Lib.hid h.1;have HV:=Lib.hid (specMasksValid A c n B m s w h hB' hm hsb);cases hv:mvd m s
 ·have HL:=Lib.hid (show nhL m s=[] by simp [nhL,hv])
  go_enter Tryz.func143,Tryz.ntmps143
  go_wp2_with (go_at_call 127;refine HV.out.mono ?_;rintro e w1 ⟨rfl,hb1⟩;rw [hv])
  go_ret
  rw [HL.out];exact ⟨_,_,rfl,Ow.made0 _ _ hb1.size,hb1.alloc hb1.size _⟩
 ·obtain ⟨⟨h2,h4⟩,hsq,hn16,hrng⟩:=mvd_at hv;rw [hlen.out] at hsq hn16 hrng
  have hs3:s=2\/s=3\/s=4:=by omega
  clear h2 h4;have HCp:=Lib.hid (fun w' (hb:Below w.heap.size w w')=>specL6Copy A n c B m w' (h.below (hb.mono hB')) (Nat.le_trans hB' hb.size) hm);have Hrng:=Lib.hid (fun k (hk:k<n)=>(hrng k hk).1);clear hrng
  rcases hs3 with rfl|rfl|rfl
  ·obtain rfl:n=4:=by omega
   have HL:=Lib.hid (show nhL m 2=hU m 2 2 (2*2) by simp [nhL,hv]);have Hv:=Lib.hid hv;clear hv
   go_enter Tryz.func143,Tryz.ntmps143
   go_wp2_with (first
    |(go_at_call 127;refine HV.out.mono ?_;rintro e w1 ⟨rfl,hb1⟩;rw [Hv.out])
    |(go_at_call 128;refine (HCp.out _ hb1).mono ?_;rintro e w2 ⟨Ac,cc,rfl,ho2,hb2⟩))
   have hb12:=step hb1 hb2;have ho2':=ho2.mono hb1.size;obtain ⟨g,rfl,hgl,hgw⟩:=ho2'.form (by omega)
   go_loopw [6] (fun i wr=>∃ u:Nat,u<=2*2/\i=.int .i64 u/\Ow wr w.heap.size (some ⟨g,0,none⟩) 4 cc (hU m 2 2 u)/\Below w.heap.size w wr) (fun i _=>2*2-(intOf i).toNat)
   case atStart=>exact ⟨0,Nat.zero_le _,rfl,ho2',hb12⟩
   case round=>
    obtain ⟨u,hu,rfl,ho,hb⟩:=hrel
    by_cases hlt:u<2*2
    ·have hltI:(u:Int)<2*2:=(by omega);have hgr:=ho.own_hi g rfl
     have hat:Hid (∀ j,j<2->∃ q:Nat,lineAt 2 u j=(q:Int)/\q<4):=Lib.hid (fun j hj=>by
      by_cases hx:(u:Int)<2
      ·rw [lineAt_row hx];exact ⟨u*2+j,by omega,by omega⟩
      ·rw [lineAt_col hx]
       exact ⟨j*2+u-2,by omega,by omega⟩)
     have hsw:=hb.size
     have HLc:Hid (Calls Tryz.prog 172 #[.int .i64 2,.int .i64 u] wr fun e w''=>∃ g3 c3,e=.returned (.slice (some ⟨g3,0,none⟩) 2 c3)/\Ow w'' wr.heap.size (some ⟨g3,0,none⟩) 2 c3 (lineTo 2 u 2)/\Below wr.heap.size wr w''):=Lib.hid ((specLineCells 2 u wr ⟨by omega,by omega⟩).mono (by
      rintro e w'' ⟨A3,c3,rfl,ho3,hb3⟩
      have e1:lineL 2 u=lineTo 2 u 2:=by
       have:lineOk 2 u=true:=(by simp [lineOk,inr];omega)
       simp [lineL,this]
      rw [e1,lineTo_length] at ho3;rw [e1,lineTo_length];obtain ⟨g3,rfl,_,_⟩:=ho3.form (by omega)
      exact ⟨g3,c3,rfl,ho3,hb3⟩))
     go_wp2_with (go_at_call 172;refine HLc.out.mono ?_;rintro e w3 ⟨g3,c3,rfl,ho3,hb3⟩)
     have hg3:=ho3.own_lo g3 rfl;have hoA:=ho.below hb3;have hbA:=hb.trans (hb3.mono hsw)
     go_loopw [8] (fun i wr=>∃ r:Nat,r<=2/\i=.int .i64 ((r:Int)+1)/\Ow wr w.heap.size (some ⟨g,0,none⟩) 4 cc (hVs m 2 2 u (hU m 2 2 u) r)/\Ow wr (g+1) (some ⟨g3,0,none⟩) 2 c3 (lineTo 2 u 2)/\Below w.heap.size w wr) (fun i _=>2+1-(intOf i).toNat)
     case atStart=>exact ⟨0,Nat.zero_le _,by simp,hoA,ho3.mono (by omega),hbA⟩
     case round=>
      clear ho3 hoA hbA hb3 ho hb hsw HLc;obtain ⟨r,hr,rfl,ho,ho3,hb⟩:=hrel
      by_cases hrT:r<2
      ·have hrI:(r:Int)+1<=2:=(by omega);have hmr:=(h.below (hb.mono hB'))
       go_wp2
       obtain ⟨WR,hWR⟩:∃ WR,WR=wr:=⟨_,rfl⟩;rw [<- hWR];rw [<- hWR] at ho ho3 hb hmr;clear hWR
       go_loopw [9,10,11] (fun cn la i wr=>wr=WR/\∃ k:Nat,k<=2/\i=.int .i64 k/\cn=.int .i64 (hC m 2 u (r+1) k:Nat)/\la=.int .i64 (hL m 2 u (r+1) k:Nat)) (fun _ _ i _=>2-(intOf i).toNat)
       case atStart=>exact ⟨rfl,0,Nat.zero_le _,rfl,rfl,rfl⟩
       case round=>
        obtain ⟨rfl,k,hk,rfl,rfl,rfl⟩:=hrel
        by_cases hkT:k<2
        ·have hkI:(k:Int)<2:=(by omega);obtain ⟨q,hq,hqn⟩:=hat.out k hkT;obtain ⟨hc3,_⟩:=ho3.cell hkT;rw [show nth (lineTo 2 u 2) k=(q:Int) by rw [<- hq];simp [lineTo,nth,List.getD_eq_getElem?_getD,hkT]] at hc3;obtain ⟨b,off,hA,hbB,hck⟩:=hmr.at_ hqn;subst hA;obtain ⟨M,hM⟩:=Int.eq_ofNat_of_zero_le (Hrng.out q hqn);rw [hM] at hck;have hsh:=shr_bit M (r+1);have hcl:=hC_le m 2 u (r+1) k;have hbit:hB m 2 u (r+1) k=M.testBit (r+1):=(by simp only [hB,hq,Int.toNat_natCast];rw [hM];simp);cases hh:M.testBit (r+1)
         ·rw [hh] at hsh hbit;have H1:=Lib.hid (show hC m 2 u (r+1) (k+1)=hC m 2 u (r+1) k by simp [hC,hbit]);have H2:=Lib.hid (show hL m 2 u (r+1) (k+1)=hL m 2 u (r+1) k by simp [hL,hbit]);clear hh hbit hM hq
          go_wp2
          go_roundw
          case rel=>exact ⟨by trivial,k+1,by omega,by go_num,by rw [H1.out],by rw [H2.out]⟩
          case measure=>simp [intOf];omega
         ·rw [hh] at hsh hbit;have H1:=Lib.hid (show hC m 2 u (r+1) (k+1)=hC m 2 u (r+1) k+1 by simp [hC,hbit]);have H2:=Lib.hid (show hL m 2 u (r+1) (k+1)=q by simp [hL,hbit,hq]);clear hh hbit hM hq
          go_wp2
          go_roundw
          case rel=>exact ⟨by trivial,k+1,by omega,by go_num,by rw [H1.out];simp,by rw [H2.out]⟩
          case measure=>simp [intOf];omega
        ·obtain rfl:k=2:=by omega
         obtain ⟨q,hq⟩:∃ q,hC m 2 u (r+1) 2=q:=⟨_,rfl⟩;obtain ⟨l,hl⟩:∃ l,hL m 2 u (r+1) 2=l:=⟨_,rfl⟩
         have hln:l<4:=by
          rw [<- hl];exact hL_lt (fun j hj=>by obtain ⟨q,hq,hqn⟩:=hat.out j hj;rw [hq];simpa using hqn) (by omega)
         have Hq:=Lib.hid hq;have Hl:=Lib.hid hl;rw [hq,hl];clear hq hl
         by_cases h1:q=1
         ·have H3:=Lib.hid (show hVs m 2 2 u (hU m 2 2 u) (r+1)=(hVs m 2 2 u (hU m 2 2 u) r).set l (bits .and .i64 (nth (hVs m 2 2 u (hU m 2 2 u) r) l) (2^(r+1))) by simp only [hVs];rw [Hq.out,Hl.out,if_pos h1]);have h1I:((q:Int)==1)=true:=(by simp [h1]);clear h1;obtain ⟨hcell,hfr⟩:=ho.cell hln;have hput:=Lib.hid (ho.putN l (bits .and .i64 (nth (hVs m 2 2 u (hU m 2 2 u) r) l) (2^(r+1))));have ho3p:=Lib.hid (ho3.far (row:=some g) (grown_set (w:=wr) (G:=g) (i:=l) (v:=.int .i64 (bits .and .i64 (nth (hVs m 2 2 u (hU m 2 2 u) r) l) (2^(r+1))))) (fun b hb e=>by have:=ho3.own_lo b hb;injection e with e;omega))
          have hw2:wrap64 ((2:Int)^(r+1))=2^(r+1):=pow_wrap5 (by omega)
          go_wp2
          go_region
          go_wp2
          go_roundw
          case rel=>exact ⟨r+1,by omega,by go_num,by rw [H3.out];exact hput.out,ho3p.out,below_drewN (Below.setCell (p:=(⟨g,l,none⟩:Addr)) hb hgl _) 1⟩
          case measure=>simp [intOf];omega
         ·have H3:=Lib.hid (show hVs m 2 2 u (hU m 2 2 u) (r+1)=hVs m 2 2 u (hU m 2 2 u) r by simp only [hVs];rw [Hq.out,if_neg h1]);have h1I:((q:Int)==1)=false:=(by simp;omega);clear h1
          go_wp2
          go_roundw
          case rel=>exact ⟨r+1,by omega,by go_num,by rw [H3.out];exact ho,ho3,hb⟩
          case measure=>simp [intOf];omega
      ·obtain rfl:r=2:=by omega
       go_wp2
       go_roundw
       case rel=>exact ⟨u+1,by omega,by go_num,ho,hb⟩
       case measure=>simp [intOf];omega
    ·obtain rfl:u=2*2:=by omega
     go_wp2
     go_ret
     rw [HL.out];have hnl:=Lib.hid (hU_len m 2 2 (2*2));exact ⟨_,_,by rw [hnl.out,hlen.out];rfl,by rw [hnl.out,hlen.out];exact ho,hb⟩
  ·obtain rfl:n=9:=by omega
   have HL:=Lib.hid (show nhL m 3=hU m 3 3 (2*3) by simp [nhL,hv]);have Hv:=Lib.hid hv;clear hv
   go_enter Tryz.func143,Tryz.ntmps143
   go_wp2_with (first
    |(go_at_call 127;refine HV.out.mono ?_;rintro e w1 ⟨rfl,hb1⟩;rw [Hv.out])
    |(go_at_call 128;refine (HCp.out _ hb1).mono ?_;rintro e w2 ⟨Ac,cc,rfl,ho2,hb2⟩))
   have hb12:=step hb1 hb2;have ho2':=ho2.mono hb1.size;obtain ⟨g,rfl,hgl,hgw⟩:=ho2'.form (by omega)
   go_loopw [6] (fun i wr=>∃ u:Nat,u<=2*3/\i=.int .i64 u/\Ow wr w.heap.size (some ⟨g,0,none⟩) 9 cc (hU m 3 3 u)/\Below w.heap.size w wr) (fun i _=>2*3-(intOf i).toNat)
   case atStart=>exact ⟨0,Nat.zero_le _,rfl,ho2',hb12⟩
   case round=>
    obtain ⟨u,hu,rfl,ho,hb⟩:=hrel
    by_cases hlt:u<2*3
    ·have hltI:(u:Int)<2*3:=(by omega);have hgr:=ho.own_hi g rfl
     have hat:Hid (∀ j,j<3->∃ q:Nat,lineAt 3 u j=(q:Int)/\q<9):=Lib.hid (fun j hj=>by
      by_cases hx:(u:Int)<3
      ·rw [lineAt_row hx];exact ⟨u*3+j,by omega,by omega⟩
      ·rw [lineAt_col hx]
       exact ⟨j*3+u-3,by omega,by omega⟩)
     have hsw:=hb.size
     have HLc:Hid (Calls Tryz.prog 172 #[.int .i64 3,.int .i64 u] wr fun e w''=>∃ g3 c3,e=.returned (.slice (some ⟨g3,0,none⟩) 3 c3)/\Ow w'' wr.heap.size (some ⟨g3,0,none⟩) 3 c3 (lineTo 3 u 3)/\Below wr.heap.size wr w''):=Lib.hid ((specLineCells 3 u wr ⟨by omega,by omega⟩).mono (by
      rintro e w'' ⟨A3,c3,rfl,ho3,hb3⟩
      have e1:lineL 3 u=lineTo 3 u 3:=by
       have:lineOk 3 u=true:=(by simp [lineOk,inr];omega)
       simp [lineL,this]
      rw [e1,lineTo_length] at ho3;rw [e1,lineTo_length];obtain ⟨g3,rfl,_,_⟩:=ho3.form (by omega)
      exact ⟨g3,c3,rfl,ho3,hb3⟩))
     go_wp2_with (go_at_call 172;refine HLc.out.mono ?_;rintro e w3 ⟨g3,c3,rfl,ho3,hb3⟩)
     have hg3:=ho3.own_lo g3 rfl;have hoA:=ho.below hb3;have hbA:=hb.trans (hb3.mono hsw)
     go_loopw [8] (fun i wr=>∃ r:Nat,r<=3/\i=.int .i64 ((r:Int)+1)/\Ow wr w.heap.size (some ⟨g,0,none⟩) 9 cc (hVs m 3 3 u (hU m 3 3 u) r)/\Ow wr (g+1) (some ⟨g3,0,none⟩) 3 c3 (lineTo 3 u 3)/\Below w.heap.size w wr) (fun i _=>3+1-(intOf i).toNat)
     case atStart=>exact ⟨0,Nat.zero_le _,by simp,hoA,ho3.mono (by omega),hbA⟩
     case round=>
      clear ho3 hoA hbA hb3 ho hb hsw HLc;obtain ⟨r,hr,rfl,ho,ho3,hb⟩:=hrel
      by_cases hrT:r<3
      ·have hrI:(r:Int)+1<=3:=(by omega);have hmr:=(h.below (hb.mono hB'))
       go_wp2
       obtain ⟨WR,hWR⟩:∃ WR,WR=wr:=⟨_,rfl⟩;rw [<- hWR];rw [<- hWR] at ho ho3 hb hmr;clear hWR
       go_loopw [9,10,11] (fun cn la i wr=>wr=WR/\∃ k:Nat,k<=3/\i=.int .i64 k/\cn=.int .i64 (hC m 3 u (r+1) k:Nat)/\la=.int .i64 (hL m 3 u (r+1) k:Nat)) (fun _ _ i _=>3-(intOf i).toNat)
       case atStart=>exact ⟨rfl,0,Nat.zero_le _,rfl,rfl,rfl⟩
       case round=>
        obtain ⟨rfl,k,hk,rfl,rfl,rfl⟩:=hrel
        by_cases hkT:k<3
        ·have hkI:(k:Int)<3:=(by omega);obtain ⟨q,hq,hqn⟩:=hat.out k hkT;obtain ⟨hc3,_⟩:=ho3.cell hkT;rw [show nth (lineTo 3 u 3) k=(q:Int) by rw [<- hq];simp [lineTo,nth,List.getD_eq_getElem?_getD,hkT]] at hc3;obtain ⟨b,off,hA,hbB,hck⟩:=hmr.at_ hqn;subst hA;obtain ⟨M,hM⟩:=Int.eq_ofNat_of_zero_le (Hrng.out q hqn);rw [hM] at hck;have hsh:=shr_bit M (r+1);have hcl:=hC_le m 3 u (r+1) k;have hbit:hB m 3 u (r+1) k=M.testBit (r+1):=(by simp only [hB,hq,Int.toNat_natCast];rw [hM];simp);cases hh:M.testBit (r+1)
         ·rw [hh] at hsh hbit;have H1:=Lib.hid (show hC m 3 u (r+1) (k+1)=hC m 3 u (r+1) k by simp [hC,hbit]);have H2:=Lib.hid (show hL m 3 u (r+1) (k+1)=hL m 3 u (r+1) k by simp [hL,hbit]);clear hh hbit hM hq
          go_wp2
          go_roundw
          case rel=>exact ⟨by trivial,k+1,by omega,by go_num,by rw [H1.out],by rw [H2.out]⟩
          case measure=>simp [intOf];omega
         ·rw [hh] at hsh hbit;have H1:=Lib.hid (show hC m 3 u (r+1) (k+1)=hC m 3 u (r+1) k+1 by simp [hC,hbit]);have H2:=Lib.hid (show hL m 3 u (r+1) (k+1)=q by simp [hL,hbit,hq]);clear hh hbit hM hq
          go_wp2
          go_roundw
          case rel=>exact ⟨by trivial,k+1,by omega,by go_num,by rw [H1.out];simp,by rw [H2.out]⟩
          case measure=>simp [intOf];omega
        ·obtain rfl:k=3:=by omega
         obtain ⟨q,hq⟩:∃ q,hC m 3 u (r+1) 3=q:=⟨_,rfl⟩;obtain ⟨l,hl⟩:∃ l,hL m 3 u (r+1) 3=l:=⟨_,rfl⟩
         have hln:l<9:=by
          rw [<- hl];exact hL_lt (fun j hj=>by obtain ⟨q,hq,hqn⟩:=hat.out j hj;rw [hq];simpa using hqn) (by omega)
         have Hq:=Lib.hid hq;have Hl:=Lib.hid hl;rw [hq,hl];clear hq hl
         by_cases h1:q=1
         ·have H3:=Lib.hid (show hVs m 3 3 u (hU m 3 3 u) (r+1)=(hVs m 3 3 u (hU m 3 3 u) r).set l (bits .and .i64 (nth (hVs m 3 3 u (hU m 3 3 u) r) l) (2^(r+1))) by simp only [hVs];rw [Hq.out,Hl.out,if_pos h1]);have h1I:((q:Int)==1)=true:=(by simp [h1]);clear h1;obtain ⟨hcell,hfr⟩:=ho.cell hln;have hput:=Lib.hid (ho.putN l (bits .and .i64 (nth (hVs m 3 3 u (hU m 3 3 u) r) l) (2^(r+1))));have ho3p:=Lib.hid (ho3.far (row:=some g) (grown_set (w:=wr) (G:=g) (i:=l) (v:=.int .i64 (bits .and .i64 (nth (hVs m 3 3 u (hU m 3 3 u) r) l) (2^(r+1))))) (fun b hb e=>by have:=ho3.own_lo b hb;injection e with e;omega))
          have hw2:wrap64 ((2:Int)^(r+1))=2^(r+1):=pow_wrap5 (by omega)
          go_wp2
          go_region
          go_wp2
          go_roundw
          case rel=>exact ⟨r+1,by omega,by go_num,by rw [H3.out];exact hput.out,ho3p.out,below_drewN (Below.setCell (p:=(⟨g,l,none⟩:Addr)) hb hgl _) 1⟩
          case measure=>simp [intOf];omega
         ·have H3:=Lib.hid (show hVs m 3 3 u (hU m 3 3 u) (r+1)=hVs m 3 3 u (hU m 3 3 u) r by simp only [hVs];rw [Hq.out,if_neg h1]);have h1I:((q:Int)==1)=false:=(by simp;omega);clear h1
          go_wp2
          go_roundw
          case rel=>exact ⟨r+1,by omega,by go_num,by rw [H3.out];exact ho,ho3,hb⟩
          case measure=>simp [intOf];omega
      ·obtain rfl:r=3:=by omega
       go_wp2
       go_roundw
       case rel=>exact ⟨u+1,by omega,by go_num,ho,hb⟩
       case measure=>simp [intOf];omega
    ·obtain rfl:u=2*3:=by omega
     go_wp2
     go_ret
     rw [HL.out];have hnl:=Lib.hid (hU_len m 3 3 (2*3));exact ⟨_,_,by rw [hnl.out,hlen.out];rfl,by rw [hnl.out,hlen.out];exact ho,hb⟩
  ·obtain rfl:n=16:=by omega
   have HL:=Lib.hid (show nhL m 4=hU m 4 4 (2*4) by simp [nhL,hv]);have Hv:=Lib.hid hv;clear hv
   go_enter Tryz.func143,Tryz.ntmps143
   go_wp2_with (first
    |(go_at_call 127;refine HV.out.mono ?_;rintro e w1 ⟨rfl,hb1⟩;rw [Hv.out])
    |(go_at_call 128;refine (HCp.out _ hb1).mono ?_;rintro e w2 ⟨Ac,cc,rfl,ho2,hb2⟩))
   have hb12:=step hb1 hb2;have ho2':=ho2.mono hb1.size;obtain ⟨g,rfl,hgl,hgw⟩:=ho2'.form (by omega)
   go_loopw [6] (fun i wr=>∃ u:Nat,u<=2*4/\i=.int .i64 u/\Ow wr w.heap.size (some ⟨g,0,none⟩) 16 cc (hU m 4 4 u)/\Below w.heap.size w wr) (fun i _=>2*4-(intOf i).toNat)
   case atStart=>exact ⟨0,Nat.zero_le _,rfl,ho2',hb12⟩
   case round=>
    obtain ⟨u,hu,rfl,ho,hb⟩:=hrel
    by_cases hlt:u<2*4
    ·have hltI:(u:Int)<2*4:=(by omega);have hgr:=ho.own_hi g rfl
     have hat:Hid (∀ j,j<4->∃ q:Nat,lineAt 4 u j=(q:Int)/\q<16):=Lib.hid (fun j hj=>by
      by_cases hx:(u:Int)<4
      ·rw [lineAt_row hx];exact ⟨u*4+j,by omega,by omega⟩
      ·rw [lineAt_col hx]
       exact ⟨j*4+u-4,by omega,by omega⟩)
     have hsw:=hb.size
     have HLc:Hid (Calls Tryz.prog 172 #[.int .i64 4,.int .i64 u] wr fun e w''=>∃ g3 c3,e=.returned (.slice (some ⟨g3,0,none⟩) 4 c3)/\Ow w'' wr.heap.size (some ⟨g3,0,none⟩) 4 c3 (lineTo 4 u 4)/\Below wr.heap.size wr w''):=Lib.hid ((specLineCells 4 u wr ⟨by omega,by omega⟩).mono (by
      rintro e w'' ⟨A3,c3,rfl,ho3,hb3⟩
      have e1:lineL 4 u=lineTo 4 u 4:=by
       have:lineOk 4 u=true:=(by simp [lineOk,inr];omega)
       simp [lineL,this]
      rw [e1,lineTo_length] at ho3;rw [e1,lineTo_length];obtain ⟨g3,rfl,_,_⟩:=ho3.form (by omega)
      exact ⟨g3,c3,rfl,ho3,hb3⟩))
     go_wp2_with (go_at_call 172;refine HLc.out.mono ?_;rintro e w3 ⟨g3,c3,rfl,ho3,hb3⟩)
     have hg3:=ho3.own_lo g3 rfl;have hoA:=ho.below hb3;have hbA:=hb.trans (hb3.mono hsw)
     go_loopw [8] (fun i wr=>∃ r:Nat,r<=4/\i=.int .i64 ((r:Int)+1)/\Ow wr w.heap.size (some ⟨g,0,none⟩) 16 cc (hVs m 4 4 u (hU m 4 4 u) r)/\Ow wr (g+1) (some ⟨g3,0,none⟩) 4 c3 (lineTo 4 u 4)/\Below w.heap.size w wr) (fun i _=>4+1-(intOf i).toNat)
     case atStart=>exact ⟨0,Nat.zero_le _,by simp,hoA,ho3.mono (by omega),hbA⟩
     case round=>
      clear ho3 hoA hbA hb3 ho hb hsw HLc;obtain ⟨r,hr,rfl,ho,ho3,hb⟩:=hrel
      by_cases hrT:r<4
      ·have hrI:(r:Int)+1<=4:=(by omega);have hmr:=(h.below (hb.mono hB'))
       go_wp2
       obtain ⟨WR,hWR⟩:∃ WR,WR=wr:=⟨_,rfl⟩;rw [<- hWR];rw [<- hWR] at ho ho3 hb hmr;clear hWR
       go_loopw [9,10,11] (fun cn la i wr=>wr=WR/\∃ k:Nat,k<=4/\i=.int .i64 k/\cn=.int .i64 (hC m 4 u (r+1) k:Nat)/\la=.int .i64 (hL m 4 u (r+1) k:Nat)) (fun _ _ i _=>4-(intOf i).toNat)
       case atStart=>exact ⟨rfl,0,Nat.zero_le _,rfl,rfl,rfl⟩
       case round=>
        obtain ⟨rfl,k,hk,rfl,rfl,rfl⟩:=hrel
        by_cases hkT:k<4
        ·have hkI:(k:Int)<4:=(by omega);obtain ⟨q,hq,hqn⟩:=hat.out k hkT;obtain ⟨hc3,_⟩:=ho3.cell hkT;rw [show nth (lineTo 4 u 4) k=(q:Int) by rw [<- hq];simp [lineTo,nth,List.getD_eq_getElem?_getD,hkT]] at hc3;obtain ⟨b,off,hA,hbB,hck⟩:=hmr.at_ hqn;subst hA;obtain ⟨M,hM⟩:=Int.eq_ofNat_of_zero_le (Hrng.out q hqn);rw [hM] at hck;have hsh:=shr_bit M (r+1);have hcl:=hC_le m 4 u (r+1) k;have hbit:hB m 4 u (r+1) k=M.testBit (r+1):=(by simp only [hB,hq,Int.toNat_natCast];rw [hM];simp);cases hh:M.testBit (r+1)
         ·rw [hh] at hsh hbit;have H1:=Lib.hid (show hC m 4 u (r+1) (k+1)=hC m 4 u (r+1) k by simp [hC,hbit]);have H2:=Lib.hid (show hL m 4 u (r+1) (k+1)=hL m 4 u (r+1) k by simp [hL,hbit]);clear hh hbit hM hq
          go_wp2
          go_roundw
          case rel=>exact ⟨by trivial,k+1,by omega,by go_num,by rw [H1.out],by rw [H2.out]⟩
          case measure=>simp [intOf];omega
         ·rw [hh] at hsh hbit;have H1:=Lib.hid (show hC m 4 u (r+1) (k+1)=hC m 4 u (r+1) k+1 by simp [hC,hbit]);have H2:=Lib.hid (show hL m 4 u (r+1) (k+1)=q by simp [hL,hbit,hq]);clear hh hbit hM hq
          go_wp2
          go_roundw
          case rel=>exact ⟨by trivial,k+1,by omega,by go_num,by rw [H1.out];simp,by rw [H2.out]⟩
          case measure=>simp [intOf];omega
        ·obtain rfl:k=4:=by omega
         obtain ⟨q,hq⟩:∃ q,hC m 4 u (r+1) 4=q:=⟨_,rfl⟩;obtain ⟨l,hl⟩:∃ l,hL m 4 u (r+1) 4=l:=⟨_,rfl⟩
         have hln:l<16:=by
          rw [<- hl];exact hL_lt (fun j hj=>by obtain ⟨q,hq,hqn⟩:=hat.out j hj;rw [hq];simpa using hqn) (by omega)
         have Hq:=Lib.hid hq;have Hl:=Lib.hid hl;rw [hq,hl];clear hq hl
         by_cases h1:q=1
         ·have H3:=Lib.hid (show hVs m 4 4 u (hU m 4 4 u) (r+1)=(hVs m 4 4 u (hU m 4 4 u) r).set l (bits .and .i64 (nth (hVs m 4 4 u (hU m 4 4 u) r) l) (2^(r+1))) by simp only [hVs];rw [Hq.out,Hl.out,if_pos h1]);have h1I:((q:Int)==1)=true:=(by simp [h1]);clear h1;obtain ⟨hcell,hfr⟩:=ho.cell hln;have hput:=Lib.hid (ho.putN l (bits .and .i64 (nth (hVs m 4 4 u (hU m 4 4 u) r) l) (2^(r+1))));have ho3p:=Lib.hid (ho3.far (row:=some g) (grown_set (w:=wr) (G:=g) (i:=l) (v:=.int .i64 (bits .and .i64 (nth (hVs m 4 4 u (hU m 4 4 u) r) l) (2^(r+1))))) (fun b hb e=>by have:=ho3.own_lo b hb;injection e with e;omega))
          have hw2:wrap64 ((2:Int)^(r+1))=2^(r+1):=pow_wrap5 (by omega)
          go_wp2
          go_region
          go_wp2
          go_roundw
          case rel=>exact ⟨r+1,by omega,by go_num,by rw [H3.out];exact hput.out,ho3p.out,below_drewN (Below.setCell (p:=(⟨g,l,none⟩:Addr)) hb hgl _) 1⟩
          case measure=>simp [intOf];omega
         ·have H3:=Lib.hid (show hVs m 4 4 u (hU m 4 4 u) (r+1)=hVs m 4 4 u (hU m 4 4 u) r by simp only [hVs];rw [Hq.out,if_neg h1]);have h1I:((q:Int)==1)=false:=(by simp;omega);clear h1
          go_wp2
          go_roundw
          case rel=>exact ⟨r+1,by omega,by go_num,by rw [H3.out];exact ho,ho3,hb⟩
          case measure=>simp [intOf];omega
      ·obtain rfl:r=4:=by omega
       go_wp2
       go_roundw
       case rel=>exact ⟨u+1,by omega,by go_num,ho,hb⟩
       case measure=>simp [intOf];omega
    ·obtain rfl:u=2*4:=by omega
     go_wp2
     go_ret
     rw [HL.out];have hnl:=Lib.hid (hU_len m 4 4 (2*4));exact ⟨_,_,by rw [hnl.out,hlen.out];rfl,by rw [hnl.out,hlen.out];exact ho,hb⟩
end Go.Proofs.YtkeoflnmbcdmfaaGreatDoor
namespace Go.Proofs.YtkeoflnmbcdmfaaGreatDoor
open Go.ChangeShapes Go.WideShapes Go.ChangeAt Go.RowKit
def lcN (S u:Int) (k:Nat):Nat:=(lineAt S u k).toNat
def pIn (m:List Int) (S u:Int) (a b:Nat) (o:List Int):Nat->List Int
 |0=>o
 |k+1=>if k≠a/\k≠b then (pIn m S u a b o k).set (lcN S u k) (bits .andNot .i64 (nth (pIn m S u a b o k) (lcN S u k)) (nth m (lcN S u a))) else pIn m S u a b o k
def pB (m:List Int) (S:Int) (N:Nat) (u:Int) (a:Nat) (o:List Int):Nat->List Int
 |0=>o
 |b+1=>if nth m (lcN S u a)=nth m (lcN S u b)/\(maskVals (nth m (lcN S u a))).length=2 then pIn m S u a b (pB m S N u a o b) N else pB m S N u a o b
def pA (m:List Int) (S:Int) (N:Nat) (u:Int) (o:List Int):Nat->List Int
 |0=>o
 |a+1=>pB m S N u a (pA m S N u o a) a
def pU (m:List Int) (S:Int) (N:Nat):Nat->List Int
 |0=>m
 |u+1=>pA m S N u (pU m S N u) N
def npL (m:List Int) (S:Int):List Int:=if mvd m S=true then pU m S S.toNat (2*S.toNat) else []
theorem pIn_len (m:List Int) (S u:Int) (a b:Nat) (o:List Int) (k:Nat):(pIn m S u a b o k).length=o.length:=by
 induction k with
 |zero=>rfl
 |succ k ih=>
  simp only [pIn]
  split
  ·rw [List.length_set,ih]
  ·exact ih
theorem pB_len (m:List Int) (S:Int) (N:Nat) (u:Int) (a:Nat) (o:List Int) (b:Nat):(pB m S N u a o b).length=o.length:=by
 induction b with
 |zero=>rfl
 |succ b ih=>
  simp only [pB]
  split
  ·rw [pIn_len,ih]
  ·exact ih
theorem pA_len (m:List Int) (S:Int) (N:Nat) (u:Int) (o:List Int) (a:Nat):(pA m S N u o a).length=o.length:=by
 induction a with
 |zero=>rfl
 |succ a ih=>simp only [pA];rw [pB_len,ih]
theorem pU_len (m:List Int) (S:Int) (N u:Nat):(pU m S N u).length=m.length:=by
 induction u with
 |zero=>rfl
 |succ u ih=>simp only [pU];rw [pA_len,ih]
set_option maxRecDepth 8000 in
set_option maxHeartbeats 8000000 in
theorem specNarrowPairs (A:Option Addr) (c n B:Nat) (m:List Int) (s:Int) (w:World) (h:Rd w B A n m) (hB':B<=w.heap.size) (hm:n<=1099511627776) (hsb: -9223372036854775808<=s/\s<=9223372036854775807):
 Calls Tryz.prog 144 #[.slice A n c,.int .i64 s] w (RetSl w (npL m s)):=by
 have hlen:=Lib.hid h.1;have HV:=Lib.hid (specMasksValid A c n B m s w h hB' hm hsb);cases hv:mvd m s
 ·have HL:=Lib.hid (show npL m s=[] by simp [npL,hv])
  go_enter Tryz.func144,Tryz.ntmps144
  go_wp2_with (go_at_call 127;refine HV.out.mono ?_;rintro e w1 ⟨rfl,hb1⟩;rw [hv])
  go_ret
  rw [HL.out];exact ⟨_,_,rfl,Ow.made0 _ _ hb1.size,hb1.alloc hb1.size _⟩
 ·obtain ⟨⟨h2,h4⟩,hsq,hn16,hrng⟩:=mvd_at hv;rw [hlen.out] at hsq hn16 hrng
  have hs3:s=2\/s=3\/s=4:=by omega
  clear h2 h4;have HCp:=Lib.hid (fun w' (hb:Below w.heap.size w w')=>specL6Copy A n c B m w' (h.below (hb.mono hB')) (Nat.le_trans hB' hb.size) hm);have Hrng:=Lib.hid (mvd_b64' hv);clear hrng
  rcases hs3 with rfl|rfl|rfl
  ·obtain rfl:n=4:=by omega
   have HL:=Lib.hid (show npL m 2=pU m 2 2 (2*2) by simp [npL,hv]);have Hv:=Lib.hid hv;clear hv
   go_enter Tryz.func144,Tryz.ntmps144
   go_wp2_with (first
    |(go_at_call 127;refine HV.out.mono ?_;rintro e w1 ⟨rfl,hb1⟩;rw [Hv.out])
    |(go_at_call 128;refine (HCp.out _ hb1).mono ?_;rintro e w2 ⟨Ac,cc,rfl,ho2,hb2⟩))
   have hb12:=step hb1 hb2;have ho2':=ho2.mono hb1.size;obtain ⟨g,rfl,hgl,hgw⟩:=ho2'.form (by omega)
   go_loopw [6] (fun i wr=>∃ u:Nat,u<=2*2/\i=.int .i64 u/\Ow wr w.heap.size (some ⟨g,0,none⟩) 4 cc (pU m 2 2 u)/\Below w.heap.size w wr) (fun i _=>2*2-(intOf i).toNat)
   case atStart=>exact ⟨0,Nat.zero_le _,rfl,ho2',hb12⟩
   case round=>
    obtain ⟨u,hu,rfl,ho,hb⟩:=hrel
    by_cases hlt:u<2*2
    ·have hltI:(u:Int)<2*2:=(by omega);have hgr:=ho.own_hi g rfl
     have hat:Hid (∀ j,j<2->∃ q:Nat,lineAt 2 u j=(q:Int)/\q<4):=Lib.hid (fun j hj=>by
      by_cases hx:(u:Int)<2
      ·rw [lineAt_row hx];exact ⟨u*2+j,by omega,by omega⟩
      ·rw [lineAt_col hx]
       exact ⟨j*2+u-2,by omega,by omega⟩)
     have hsw:=hb.size
     have HLc:Hid (Calls Tryz.prog 172 #[.int .i64 2,.int .i64 u] wr fun e w''=>∃ g3 c3,e=.returned (.slice (some ⟨g3,0,none⟩) 2 c3)/\Ow w'' wr.heap.size (some ⟨g3,0,none⟩) 2 c3 (lineTo 2 u 2)/\Below wr.heap.size wr w''):=Lib.hid ((specLineCells 2 u wr ⟨by omega,by omega⟩).mono (by
      rintro e w'' ⟨A3,c3,rfl,ho3,hb3⟩
      have e1:lineL 2 u=lineTo 2 u 2:=by
       have:lineOk 2 u=true:=(by simp [lineOk,inr];omega)
       simp [lineL,this]
      rw [e1,lineTo_length] at ho3;rw [e1,lineTo_length];obtain ⟨g3,rfl,_,_⟩:=ho3.form (by omega)
      exact ⟨g3,c3,rfl,ho3,hb3⟩))
     go_wp2_with (go_at_call 172;refine HLc.out.mono ?_;rintro e w3 ⟨g3,c3,rfl,ho3,hb3⟩)
     have hg3:=ho3.own_lo g3 rfl;have hoA:=ho.below hb3;have hbA:=hb.trans (hb3.mono hsw)
     go_loopw [8] (fun i wr=>∃ a:Nat,a<=2/\i=.int .i64 a/\Ow wr w.heap.size (some ⟨g,0,none⟩) 4 cc (pA m 2 2 u (pU m 2 2 u) a)/\Ow wr (g+1) (some ⟨g3,0,none⟩) 2 c3 (lineTo 2 u 2)/\Below w.heap.size w wr) (fun i _=>2-(intOf i).toNat)
     case atStart=>exact ⟨0,Nat.zero_le _,rfl,hoA,ho3.mono (by omega),hbA⟩
     case round=>
      clear ho3 hoA hbA hb3 ho hb hsw HLc;obtain ⟨a,ha,rfl,ho,ho3,hb⟩:=hrel
      by_cases haT:a<2
      ·have haI:(a:Int)<2:=(by omega);obtain ⟨qa,hqa,hqan⟩:=hat.out a haT;have Hqa:=Lib.hid (show lcN 2 u a=qa by simp [lcN,hqa])
       go_wp2
       go_loopw [9] (fun i wr=>∃ b:Nat,b<=a/\i=.int .i64 b/\Ow wr w.heap.size (some ⟨g,0,none⟩) 4 cc (pB m 2 2 u a (pA m 2 2 u (pU m 2 2 u) a) b)/\Ow wr (g+1) (some ⟨g3,0,none⟩) 2 c3 (lineTo 2 u 2)/\Below w.heap.size w wr) (fun i _=>a-(intOf i).toNat)
       case atStart=>exact ⟨0,Nat.zero_le _,rfl,ho,ho3,hb⟩
       case round=>
        clear ho ho3 hb;obtain ⟨b,hb',rfl,ho,ho3,hb⟩:=hrel
        by_cases hba:b<a
        ·have hbI:(b:Int)<(a:Int):=(by omega);obtain ⟨qb,hqb,hqbn⟩:=hat.out b (by omega);have Hqb:=Lib.hid (show lcN 2 u b=qb by simp [lcN,hqb]);obtain ⟨hca,_⟩:=ho3.cell haT;obtain ⟨hcb,_⟩:=ho3.cell (show b<2 by omega);rw [show nth (lineTo 2 u 2) a=(qa:Int) by rw [<- hqa];simp [lineTo,nth,List.getD_eq_getElem?_getD,haT]] at hca;rw [show nth (lineTo 2 u 2) b=(qb:Int) by rw [<- hqb];simp [lineTo,nth,List.getD_eq_getElem?_getD,(show b<2 by omega)]] at hcb;obtain ⟨bb,off,hA,hbB,hck⟩:=(h.below (hb.mono hB')).at_ hqan;subst hA;obtain ⟨bb2,off2,hA2,_,hck2⟩:=(h.below (hb.mono hB')).at_ hqbn
         cases hA2;have hsw:=hb.size;have hgw3:=ho3.own_hi g3 rfl;have hbbw:bb<wr.heap.size:=(by omega);have hE1:Hid (pB m 2 2 u a (pA m 2 2 u (pU m 2 2 u) a) (b+1)=if nth m qa=nth m qb/\(maskVals (nth m qa)).length=2 then pIn m 2 u a b (pB m 2 2 u a (pA m 2 2 u (pU m 2 2 u) a) b) 2 else pB m 2 2 u a (pA m 2 2 u (pU m 2 2 u) a) b):=Lib.hid (by simp only [pB];rw [Hqa.out,Hqb.out])
         by_cases h1:nth m qa=nth m qb
         ·have h1I:(nth m qa != nth m qb)=false:=(by simp [h1]);obtain ⟨q,hq⟩:∃ q,q=(maskVals (nth m qa)).length:=⟨_,rfl⟩;have Hq:=Lib.hid hq;have HMv2:Hid (Calls Tryz.prog 129 #[.int .i64 (nth m qa)] wr fun e w''=>∃ A5 c5,e=.returned (.slice A5 q c5)/\Below wr.heap.size wr w''):=Lib.hid ((specMaskValues (nth m qa) wr (Hrng.out qa)).mono (by rintro e w'' ⟨A5,c5,rfl,_,hb5⟩;exact ⟨A5,c5,by rw [hq],hb5⟩));have He1:=Lib.hid h1;clear hq h1
          by_cases h2:q=2
          ·have h2I:((q:Int) != 2)=false:=(by simp [h2]);have Hs:=Lib.hid (show pB m 2 2 u a (pA m 2 2 u (pU m 2 2 u) a) (b+1)=pIn m 2 u a b (pB m 2 2 u a (pA m 2 2 u (pU m 2 2 u) a) b) 2 by rw [hE1.out,if_pos ⟨He1.out,by rw [<- Hq.out];exact h2⟩]);clear h2
           go_wp2_with (go_at_call 129;refine HMv2.out.mono ?_;rintro e w5 ⟨A5,c5,rfl,hb5⟩)
           have hoS:=ho.below hb5;have ho3S:=ho3.below hb5;have hbS:=hb.trans (hb5.mono hsw)
           go_loopw [11] (fun i wr=>∃ k:Nat,k<=2/\i=.int .i64 k/\Ow wr w.heap.size (some ⟨g,0,none⟩) 4 cc (pIn m 2 u a b (pB m 2 2 u a (pA m 2 2 u (pU m 2 2 u) a) b) k)/\Ow wr (g+1) (some ⟨g3,0,none⟩) 2 c3 (lineTo 2 u 2)/\Below w.heap.size w wr) (fun i _=>2-(intOf i).toNat)
           case atStart=>exact ⟨0,Nat.zero_le _,rfl,hoS,ho3S,hbS⟩
           case round=>
            clear ho ho3 hb hoS ho3S hbS hca hcb hck hck2 hsw hgw3 hbbw HMv2 hb5;obtain ⟨k,hk,rfl,ho,ho3,hb⟩:=hrel
            by_cases hkT:k<2
            ·have hkI:(k:Int)<2:=(by omega);obtain ⟨qk,hqk,hqkn⟩:=hat.out k hkT;have Hqk:=Lib.hid (show lcN 2 u k=qk by simp [lcN,hqk]);have hE2:Hid (pIn m 2 u a b (pB m 2 2 u a (pA m 2 2 u (pU m 2 2 u) a) b) (k+1)=if k≠a/\k≠b then (pIn m 2 u a b (pB m 2 2 u a (pA m 2 2 u (pU m 2 2 u) a) b) k).set qk (bits .andNot .i64 (nth (pIn m 2 u a b (pB m 2 2 u a (pA m 2 2 u (pU m 2 2 u) a) b) k) qk) (nth m qa)) else pIn m 2 u a b (pB m 2 2 u a (pA m 2 2 u (pU m 2 2 u) a) b) k):=Lib.hid (by simp only [pIn];rw [Hqa.out,Hqk.out])
             by_cases e1:k=a
             ·have f1:((k:Int) != (a:Int))=false:=(by simp [e1]);have Hk:=Lib.hid (hE2.out.trans (if_neg (fun e=>e.1 e1)));clear e1
              go_wp2
              go_roundw
              case rel=>exact ⟨k+1,by omega,by go_num,by rw [Hk.out];exact ho,ho3,hb⟩
              case measure=>simp [intOf];omega
             ·have f1:((k:Int) != (a:Int))=true:=(by simp;omega)
              by_cases e2:k=b
              ·have f2:((k:Int) != (b:Int))=false:=(by simp [e2]);have Hk:=Lib.hid (hE2.out.trans (if_neg (fun e=>e.2 e2)));clear e1 e2
               go_wp2
               go_roundw
               case rel=>exact ⟨k+1,by omega,by go_num,by rw [Hk.out];exact ho,ho3,hb⟩
               case measure=>simp [intOf];omega
              ·have f2:((k:Int) != (b:Int))=true:=(by simp;omega);have Hk:=Lib.hid (hE2.out.trans (if_pos ⟨e1,e2⟩));clear e1 e2;obtain ⟨hck,_⟩:=ho3.cell hkT;rw [show nth (lineTo 2 u 2) k=(qk:Int) by rw [<- hqk];simp [lineTo,nth,List.getD_eq_getElem?_getD,hkT]] at hck;obtain ⟨hcell,hfr⟩:=ho.cell hqkn;have hput:=Lib.hid (ho.putN qk (bits .andNot .i64 (nth (pIn m 2 u a b (pB m 2 2 u a (pA m 2 2 u (pU m 2 2 u) a) b) k) qk) (nth m qa)));have ho3p:=Lib.hid (ho3.far (row:=some g) (grown_set (w:=wr) (G:=g) (i:=qk) (v:=.int .i64 (bits .andNot .i64 (nth (pIn m 2 u a b (pB m 2 2 u a (pA m 2 2 u (pU m 2 2 u) a) b) k) qk) (nth m qa)))) (fun b hb e=>by have:=ho3.own_lo b hb;injection e with e;omega))
               go_wp2
               go_region
               go_wp2
               go_roundw
               case rel=>exact ⟨k+1,by omega,by go_num,by rw [Hk.out];exact hput.out,ho3p.out,below_drewN (Below.setCell (p:=(⟨g,qk,none⟩:Addr)) hb hgl _) 1⟩
               case measure=>simp [intOf];omega
            ·obtain rfl:k=2:=by omega
             go_wp2
             go_roundw
             case rel=>exact ⟨b+1,by omega,by go_num,by rw [Hs.out];exact ho,ho3,hb⟩
             case measure=>simp [intOf];omega
          ·have h2I:((q:Int) != 2)=true:=(by simp;omega);have Hs:=Lib.hid (show pB m 2 2 u a (pA m 2 2 u (pU m 2 2 u) a) (b+1)=pB m 2 2 u a (pA m 2 2 u (pU m 2 2 u) a) b by rw [hE1.out,if_neg (fun e=>h2 (by rw [Hq.out];exact e.2))]);clear h2
           go_wp2_with (go_at_call 129;refine HMv2.out.mono ?_;rintro e w5 ⟨A5,c5,rfl,hb5⟩)
           go_roundw
           case rel=>exact ⟨b+1,by omega,by go_num,by rw [Hs.out];exact ho.below hb5,ho3.below hb5,hb.trans (hb5.mono hsw)⟩
           case measure=>simp [intOf];omega
         ·have h1I:(nth m qa != nth m qb)=true:=(by simp;exact h1);have Hs:=Lib.hid (show pB m 2 2 u a (pA m 2 2 u (pU m 2 2 u) a) (b+1)=pB m 2 2 u a (pA m 2 2 u (pU m 2 2 u) a) b by rw [hE1.out,if_neg (fun e=>h1 e.1)]);clear h1
          go_wp2
          go_roundw
          case rel=>exact ⟨b+1,by omega,by go_num,by rw [Hs.out];exact ho,ho3,hb⟩
          case measure=>simp [intOf];omega
        ·obtain rfl:b=a:=by omega
         go_wp2
         go_roundw
         case rel=>exact ⟨b+1,by omega,by go_num,ho,ho3,hb⟩
         case measure=>simp [intOf];omega
      ·have haT':a=2:=(by omega);have haI:¬ (a:Int)<2:=(by omega);have Ho:Hid (Ow wr w.heap.size (some ⟨g,0,none⟩) 4 cc (pU m 2 2 (u+1))):=Lib.hid (by subst haT';exact ho);clear ho haT' haT ha
       go_wp2
       go_roundw
       case rel=>exact ⟨u+1,by omega,by go_num,Ho.out,hb⟩
       case measure=>simp [intOf];omega
    ·obtain rfl:u=2*2:=by omega
     go_wp2
     go_ret
     rw [HL.out];have hnl:=Lib.hid (pU_len m 2 2 (2*2));exact ⟨_,_,by rw [hnl.out,hlen.out];rfl,by rw [hnl.out,hlen.out];exact ho,hb⟩
  ·obtain rfl:n=9:=by omega
   have HL:=Lib.hid (show npL m 3=pU m 3 3 (2*3) by simp [npL,hv]);have Hv:=Lib.hid hv;clear hv
   go_enter Tryz.func144,Tryz.ntmps144
   go_wp2_with (first
    |(go_at_call 127;refine HV.out.mono ?_;rintro e w1 ⟨rfl,hb1⟩;rw [Hv.out])
    |(go_at_call 128;refine (HCp.out _ hb1).mono ?_;rintro e w2 ⟨Ac,cc,rfl,ho2,hb2⟩))
   have hb12:=step hb1 hb2;have ho2':=ho2.mono hb1.size;obtain ⟨g,rfl,hgl,hgw⟩:=ho2'.form (by omega)
   go_loopw [6] (fun i wr=>∃ u:Nat,u<=2*3/\i=.int .i64 u/\Ow wr w.heap.size (some ⟨g,0,none⟩) 9 cc (pU m 3 3 u)/\Below w.heap.size w wr) (fun i _=>2*3-(intOf i).toNat)
   case atStart=>exact ⟨0,Nat.zero_le _,rfl,ho2',hb12⟩
   case round=>
    obtain ⟨u,hu,rfl,ho,hb⟩:=hrel
    by_cases hlt:u<2*3
    ·have hltI:(u:Int)<2*3:=(by omega);have hgr:=ho.own_hi g rfl
     have hat:Hid (∀ j,j<3->∃ q:Nat,lineAt 3 u j=(q:Int)/\q<9):=Lib.hid (fun j hj=>by
      by_cases hx:(u:Int)<3
      ·rw [lineAt_row hx];exact ⟨u*3+j,by omega,by omega⟩
      ·rw [lineAt_col hx]
       exact ⟨j*3+u-3,by omega,by omega⟩)
     have hsw:=hb.size
     have HLc:Hid (Calls Tryz.prog 172 #[.int .i64 3,.int .i64 u] wr fun e w''=>∃ g3 c3,e=.returned (.slice (some ⟨g3,0,none⟩) 3 c3)/\Ow w'' wr.heap.size (some ⟨g3,0,none⟩) 3 c3 (lineTo 3 u 3)/\Below wr.heap.size wr w''):=Lib.hid ((specLineCells 3 u wr ⟨by omega,by omega⟩).mono (by
      rintro e w'' ⟨A3,c3,rfl,ho3,hb3⟩
      have e1:lineL 3 u=lineTo 3 u 3:=by
       have:lineOk 3 u=true:=(by simp [lineOk,inr];omega)
       simp [lineL,this]
      rw [e1,lineTo_length] at ho3;rw [e1,lineTo_length];obtain ⟨g3,rfl,_,_⟩:=ho3.form (by omega)
      exact ⟨g3,c3,rfl,ho3,hb3⟩))
     go_wp2_with (go_at_call 172;refine HLc.out.mono ?_;rintro e w3 ⟨g3,c3,rfl,ho3,hb3⟩)
     have hg3:=ho3.own_lo g3 rfl;have hoA:=ho.below hb3;have hbA:=hb.trans (hb3.mono hsw)
     go_loopw [8] (fun i wr=>∃ a:Nat,a<=3/\i=.int .i64 a/\Ow wr w.heap.size (some ⟨g,0,none⟩) 9 cc (pA m 3 3 u (pU m 3 3 u) a)/\Ow wr (g+1) (some ⟨g3,0,none⟩) 3 c3 (lineTo 3 u 3)/\Below w.heap.size w wr) (fun i _=>3-(intOf i).toNat)
     case atStart=>exact ⟨0,Nat.zero_le _,rfl,hoA,ho3.mono (by omega),hbA⟩
     case round=>
      clear ho3 hoA hbA hb3 ho hb hsw HLc;obtain ⟨a,ha,rfl,ho,ho3,hb⟩:=hrel
      by_cases haT:a<3
      ·have haI:(a:Int)<3:=(by omega);obtain ⟨qa,hqa,hqan⟩:=hat.out a haT;have Hqa:=Lib.hid (show lcN 3 u a=qa by simp [lcN,hqa])
       go_wp2
       go_loopw [9] (fun i wr=>∃ b:Nat,b<=a/\i=.int .i64 b/\Ow wr w.heap.size (some ⟨g,0,none⟩) 9 cc (pB m 3 3 u a (pA m 3 3 u (pU m 3 3 u) a) b)/\Ow wr (g+1) (some ⟨g3,0,none⟩) 3 c3 (lineTo 3 u 3)/\Below w.heap.size w wr) (fun i _=>a-(intOf i).toNat)
       case atStart=>exact ⟨0,Nat.zero_le _,rfl,ho,ho3,hb⟩
       case round=>
        clear ho ho3 hb;obtain ⟨b,hb',rfl,ho,ho3,hb⟩:=hrel
        by_cases hba:b<a
        ·have hbI:(b:Int)<(a:Int):=(by omega);obtain ⟨qb,hqb,hqbn⟩:=hat.out b (by omega);have Hqb:=Lib.hid (show lcN 3 u b=qb by simp [lcN,hqb]);obtain ⟨hca,_⟩:=ho3.cell haT;obtain ⟨hcb,_⟩:=ho3.cell (show b<3 by omega);rw [show nth (lineTo 3 u 3) a=(qa:Int) by rw [<- hqa];simp [lineTo,nth,List.getD_eq_getElem?_getD,haT]] at hca;rw [show nth (lineTo 3 u 3) b=(qb:Int) by rw [<- hqb];simp [lineTo,nth,List.getD_eq_getElem?_getD,(show b<3 by omega)]] at hcb;obtain ⟨bb,off,hA,hbB,hck⟩:=(h.below (hb.mono hB')).at_ hqan;subst hA;obtain ⟨bb2,off2,hA2,_,hck2⟩:=(h.below (hb.mono hB')).at_ hqbn
         cases hA2;have hsw:=hb.size;have hgw3:=ho3.own_hi g3 rfl;have hbbw:bb<wr.heap.size:=(by omega);have hE1:Hid (pB m 3 3 u a (pA m 3 3 u (pU m 3 3 u) a) (b+1)=if nth m qa=nth m qb/\(maskVals (nth m qa)).length=2 then pIn m 3 u a b (pB m 3 3 u a (pA m 3 3 u (pU m 3 3 u) a) b) 3 else pB m 3 3 u a (pA m 3 3 u (pU m 3 3 u) a) b):=Lib.hid (by simp only [pB];rw [Hqa.out,Hqb.out])
         by_cases h1:nth m qa=nth m qb
         ·have h1I:(nth m qa != nth m qb)=false:=(by simp [h1]);obtain ⟨q,hq⟩:∃ q,q=(maskVals (nth m qa)).length:=⟨_,rfl⟩;have Hq:=Lib.hid hq;have HMv2:Hid (Calls Tryz.prog 129 #[.int .i64 (nth m qa)] wr fun e w''=>∃ A5 c5,e=.returned (.slice A5 q c5)/\Below wr.heap.size wr w''):=Lib.hid ((specMaskValues (nth m qa) wr (Hrng.out qa)).mono (by rintro e w'' ⟨A5,c5,rfl,_,hb5⟩;exact ⟨A5,c5,by rw [hq],hb5⟩));have He1:=Lib.hid h1;clear hq h1
          by_cases h2:q=2
          ·have h2I:((q:Int) != 2)=false:=(by simp [h2]);have Hs:=Lib.hid (show pB m 3 3 u a (pA m 3 3 u (pU m 3 3 u) a) (b+1)=pIn m 3 u a b (pB m 3 3 u a (pA m 3 3 u (pU m 3 3 u) a) b) 3 by rw [hE1.out,if_pos ⟨He1.out,by rw [<- Hq.out];exact h2⟩]);clear h2
           go_wp2_with (go_at_call 129;refine HMv2.out.mono ?_;rintro e w5 ⟨A5,c5,rfl,hb5⟩)
           have hoS:=ho.below hb5;have ho3S:=ho3.below hb5;have hbS:=hb.trans (hb5.mono hsw)
           go_loopw [11] (fun i wr=>∃ k:Nat,k<=3/\i=.int .i64 k/\Ow wr w.heap.size (some ⟨g,0,none⟩) 9 cc (pIn m 3 u a b (pB m 3 3 u a (pA m 3 3 u (pU m 3 3 u) a) b) k)/\Ow wr (g+1) (some ⟨g3,0,none⟩) 3 c3 (lineTo 3 u 3)/\Below w.heap.size w wr) (fun i _=>3-(intOf i).toNat)
           case atStart=>exact ⟨0,Nat.zero_le _,rfl,hoS,ho3S,hbS⟩
           case round=>
            clear ho ho3 hb hoS ho3S hbS hca hcb hck hck2 hsw hgw3 hbbw HMv2 hb5;obtain ⟨k,hk,rfl,ho,ho3,hb⟩:=hrel
            by_cases hkT:k<3
            ·have hkI:(k:Int)<3:=(by omega);obtain ⟨qk,hqk,hqkn⟩:=hat.out k hkT;have Hqk:=Lib.hid (show lcN 3 u k=qk by simp [lcN,hqk]);have hE2:Hid (pIn m 3 u a b (pB m 3 3 u a (pA m 3 3 u (pU m 3 3 u) a) b) (k+1)=if k≠a/\k≠b then (pIn m 3 u a b (pB m 3 3 u a (pA m 3 3 u (pU m 3 3 u) a) b) k).set qk (bits .andNot .i64 (nth (pIn m 3 u a b (pB m 3 3 u a (pA m 3 3 u (pU m 3 3 u) a) b) k) qk) (nth m qa)) else pIn m 3 u a b (pB m 3 3 u a (pA m 3 3 u (pU m 3 3 u) a) b) k):=Lib.hid (by simp only [pIn];rw [Hqa.out,Hqk.out])
             by_cases e1:k=a
             ·have f1:((k:Int) != (a:Int))=false:=(by simp [e1]);have Hk:=Lib.hid (hE2.out.trans (if_neg (fun e=>e.1 e1)));clear e1
              go_wp2
              go_roundw
              case rel=>exact ⟨k+1,by omega,by go_num,by rw [Hk.out];exact ho,ho3,hb⟩
              case measure=>simp [intOf];omega
             ·have f1:((k:Int) != (a:Int))=true:=(by simp;omega)
              by_cases e2:k=b
              ·have f2:((k:Int) != (b:Int))=false:=(by simp [e2]);have Hk:=Lib.hid (hE2.out.trans (if_neg (fun e=>e.2 e2)));clear e1 e2
               go_wp2
               go_roundw
               case rel=>exact ⟨k+1,by omega,by go_num,by rw [Hk.out];exact ho,ho3,hb⟩
               case measure=>simp [intOf];omega
              ·have f2:((k:Int) != (b:Int))=true:=(by simp;omega);have Hk:=Lib.hid (hE2.out.trans (if_pos ⟨e1,e2⟩));clear e1 e2;obtain ⟨hck,_⟩:=ho3.cell hkT;rw [show nth (lineTo 3 u 3) k=(qk:Int) by rw [<- hqk];simp [lineTo,nth,List.getD_eq_getElem?_getD,hkT]] at hck;obtain ⟨hcell,hfr⟩:=ho.cell hqkn;have hput:=Lib.hid (ho.putN qk (bits .andNot .i64 (nth (pIn m 3 u a b (pB m 3 3 u a (pA m 3 3 u (pU m 3 3 u) a) b) k) qk) (nth m qa)));have ho3p:=Lib.hid (ho3.far (row:=some g) (grown_set (w:=wr) (G:=g) (i:=qk) (v:=.int .i64 (bits .andNot .i64 (nth (pIn m 3 u a b (pB m 3 3 u a (pA m 3 3 u (pU m 3 3 u) a) b) k) qk) (nth m qa)))) (fun b hb e=>by have:=ho3.own_lo b hb;injection e with e;omega))
               go_wp2
               go_region
               go_wp2
               go_roundw
               case rel=>exact ⟨k+1,by omega,by go_num,by rw [Hk.out];exact hput.out,ho3p.out,below_drewN (Below.setCell (p:=(⟨g,qk,none⟩:Addr)) hb hgl _) 1⟩
               case measure=>simp [intOf];omega
            ·obtain rfl:k=3:=by omega
             go_wp2
             go_roundw
             case rel=>exact ⟨b+1,by omega,by go_num,by rw [Hs.out];exact ho,ho3,hb⟩
             case measure=>simp [intOf];omega
          ·have h2I:((q:Int) != 2)=true:=(by simp;omega);have Hs:=Lib.hid (show pB m 3 3 u a (pA m 3 3 u (pU m 3 3 u) a) (b+1)=pB m 3 3 u a (pA m 3 3 u (pU m 3 3 u) a) b by rw [hE1.out,if_neg (fun e=>h2 (by rw [Hq.out];exact e.2))]);clear h2
           go_wp2_with (go_at_call 129;refine HMv2.out.mono ?_;rintro e w5 ⟨A5,c5,rfl,hb5⟩)
           go_roundw
           case rel=>exact ⟨b+1,by omega,by go_num,by rw [Hs.out];exact ho.below hb5,ho3.below hb5,hb.trans (hb5.mono hsw)⟩
           case measure=>simp [intOf];omega
         ·have h1I:(nth m qa != nth m qb)=true:=(by simp;exact h1);have Hs:=Lib.hid (show pB m 3 3 u a (pA m 3 3 u (pU m 3 3 u) a) (b+1)=pB m 3 3 u a (pA m 3 3 u (pU m 3 3 u) a) b by rw [hE1.out,if_neg (fun e=>h1 e.1)]);clear h1
          go_wp2
          go_roundw
          case rel=>exact ⟨b+1,by omega,by go_num,by rw [Hs.out];exact ho,ho3,hb⟩
          case measure=>simp [intOf];omega
        ·obtain rfl:b=a:=by omega
         go_wp2
         go_roundw
         case rel=>exact ⟨b+1,by omega,by go_num,ho,ho3,hb⟩
         case measure=>simp [intOf];omega
      ·have haT':a=3:=(by omega);have haI:¬ (a:Int)<3:=(by omega);have Ho:Hid (Ow wr w.heap.size (some ⟨g,0,none⟩) 9 cc (pU m 3 3 (u+1))):=Lib.hid (by subst haT';exact ho);clear ho haT' haT ha
       go_wp2
       go_roundw
       case rel=>exact ⟨u+1,by omega,by go_num,Ho.out,hb⟩
       case measure=>simp [intOf];omega
    ·obtain rfl:u=2*3:=by omega
     go_wp2
     go_ret
     rw [HL.out];have hnl:=Lib.hid (pU_len m 3 3 (2*3));exact ⟨_,_,by rw [hnl.out,hlen.out];rfl,by rw [hnl.out,hlen.out];exact ho,hb⟩
  ·obtain rfl:n=16:=by omega
   have HL:=Lib.hid (show npL m 4=pU m 4 4 (2*4) by simp [npL,hv]);have Hv:=Lib.hid hv;clear hv
   go_enter Tryz.func144,Tryz.ntmps144
   go_wp2_with (first
    |(go_at_call 127;refine HV.out.mono ?_;rintro e w1 ⟨rfl,hb1⟩;rw [Hv.out])
    |(go_at_call 128;refine (HCp.out _ hb1).mono ?_;rintro e w2 ⟨Ac,cc,rfl,ho2,hb2⟩))
   have hb12:=step hb1 hb2;have ho2':=ho2.mono hb1.size;obtain ⟨g,rfl,hgl,hgw⟩:=ho2'.form (by omega)
   go_loopw [6] (fun i wr=>∃ u:Nat,u<=2*4/\i=.int .i64 u/\Ow wr w.heap.size (some ⟨g,0,none⟩) 16 cc (pU m 4 4 u)/\Below w.heap.size w wr) (fun i _=>2*4-(intOf i).toNat)
   case atStart=>exact ⟨0,Nat.zero_le _,rfl,ho2',hb12⟩
   case round=>
    obtain ⟨u,hu,rfl,ho,hb⟩:=hrel
    by_cases hlt:u<2*4
    ·have hltI:(u:Int)<2*4:=(by omega);have hgr:=ho.own_hi g rfl
     have hat:Hid (∀ j,j<4->∃ q:Nat,lineAt 4 u j=(q:Int)/\q<16):=Lib.hid (fun j hj=>by
      by_cases hx:(u:Int)<4
      ·rw [lineAt_row hx];exact ⟨u*4+j,by omega,by omega⟩
      ·rw [lineAt_col hx]
       exact ⟨j*4+u-4,by omega,by omega⟩)
     have hsw:=hb.size
     have HLc:Hid (Calls Tryz.prog 172 #[.int .i64 4,.int .i64 u] wr fun e w''=>∃ g3 c3,e=.returned (.slice (some ⟨g3,0,none⟩) 4 c3)/\Ow w'' wr.heap.size (some ⟨g3,0,none⟩) 4 c3 (lineTo 4 u 4)/\Below wr.heap.size wr w''):=Lib.hid ((specLineCells 4 u wr ⟨by omega,by omega⟩).mono (by
      rintro e w'' ⟨A3,c3,rfl,ho3,hb3⟩
      have e1:lineL 4 u=lineTo 4 u 4:=by
       have:lineOk 4 u=true:=(by simp [lineOk,inr];omega)
       simp [lineL,this]
      rw [e1,lineTo_length] at ho3;rw [e1,lineTo_length];obtain ⟨g3,rfl,_,_⟩:=ho3.form (by omega)
      exact ⟨g3,c3,rfl,ho3,hb3⟩))
     go_wp2_with (go_at_call 172;refine HLc.out.mono ?_;rintro e w3 ⟨g3,c3,rfl,ho3,hb3⟩)
     have hg3:=ho3.own_lo g3 rfl;have hoA:=ho.below hb3;have hbA:=hb.trans (hb3.mono hsw)
     go_loopw [8] (fun i wr=>∃ a:Nat,a<=4/\i=.int .i64 a/\Ow wr w.heap.size (some ⟨g,0,none⟩) 16 cc (pA m 4 4 u (pU m 4 4 u) a)/\Ow wr (g+1) (some ⟨g3,0,none⟩) 4 c3 (lineTo 4 u 4)/\Below w.heap.size w wr) (fun i _=>4-(intOf i).toNat)
     case atStart=>exact ⟨0,Nat.zero_le _,rfl,hoA,ho3.mono (by omega),hbA⟩
     case round=>
      clear ho3 hoA hbA hb3 ho hb hsw HLc;obtain ⟨a,ha,rfl,ho,ho3,hb⟩:=hrel
      by_cases haT:a<4
      ·have haI:(a:Int)<4:=(by omega);obtain ⟨qa,hqa,hqan⟩:=hat.out a haT;have Hqa:=Lib.hid (show lcN 4 u a=qa by simp [lcN,hqa])
       go_wp2
       go_loopw [9] (fun i wr=>∃ b:Nat,b<=a/\i=.int .i64 b/\Ow wr w.heap.size (some ⟨g,0,none⟩) 16 cc (pB m 4 4 u a (pA m 4 4 u (pU m 4 4 u) a) b)/\Ow wr (g+1) (some ⟨g3,0,none⟩) 4 c3 (lineTo 4 u 4)/\Below w.heap.size w wr) (fun i _=>a-(intOf i).toNat)
       case atStart=>exact ⟨0,Nat.zero_le _,rfl,ho,ho3,hb⟩
       case round=>
        clear ho ho3 hb;obtain ⟨b,hb',rfl,ho,ho3,hb⟩:=hrel
        by_cases hba:b<a
        ·have hbI:(b:Int)<(a:Int):=(by omega);obtain ⟨qb,hqb,hqbn⟩:=hat.out b (by omega);have Hqb:=Lib.hid (show lcN 4 u b=qb by simp [lcN,hqb]);obtain ⟨hca,_⟩:=ho3.cell haT;obtain ⟨hcb,_⟩:=ho3.cell (show b<4 by omega);rw [show nth (lineTo 4 u 4) a=(qa:Int) by rw [<- hqa];simp [lineTo,nth,List.getD_eq_getElem?_getD,haT]] at hca;rw [show nth (lineTo 4 u 4) b=(qb:Int) by rw [<- hqb];simp [lineTo,nth,List.getD_eq_getElem?_getD,(show b<4 by omega)]] at hcb;obtain ⟨bb,off,hA,hbB,hck⟩:=(h.below (hb.mono hB')).at_ hqan;subst hA;obtain ⟨bb2,off2,hA2,_,hck2⟩:=(h.below (hb.mono hB')).at_ hqbn
         cases hA2;have hsw:=hb.size;have hgw3:=ho3.own_hi g3 rfl;have hbbw:bb<wr.heap.size:=(by omega);have hE1:Hid (pB m 4 4 u a (pA m 4 4 u (pU m 4 4 u) a) (b+1)=if nth m qa=nth m qb/\(maskVals (nth m qa)).length=2 then pIn m 4 u a b (pB m 4 4 u a (pA m 4 4 u (pU m 4 4 u) a) b) 4 else pB m 4 4 u a (pA m 4 4 u (pU m 4 4 u) a) b):=Lib.hid (by simp only [pB];rw [Hqa.out,Hqb.out])
         by_cases h1:nth m qa=nth m qb
         ·have h1I:(nth m qa != nth m qb)=false:=(by simp [h1]);obtain ⟨q,hq⟩:∃ q,q=(maskVals (nth m qa)).length:=⟨_,rfl⟩;have Hq:=Lib.hid hq;have HMv2:Hid (Calls Tryz.prog 129 #[.int .i64 (nth m qa)] wr fun e w''=>∃ A5 c5,e=.returned (.slice A5 q c5)/\Below wr.heap.size wr w''):=Lib.hid ((specMaskValues (nth m qa) wr (Hrng.out qa)).mono (by rintro e w'' ⟨A5,c5,rfl,_,hb5⟩;exact ⟨A5,c5,by rw [hq],hb5⟩));have He1:=Lib.hid h1;clear hq h1
          by_cases h2:q=2
          ·have h2I:((q:Int) != 2)=false:=(by simp [h2]);have Hs:=Lib.hid (show pB m 4 4 u a (pA m 4 4 u (pU m 4 4 u) a) (b+1)=pIn m 4 u a b (pB m 4 4 u a (pA m 4 4 u (pU m 4 4 u) a) b) 4 by rw [hE1.out,if_pos ⟨He1.out,by rw [<- Hq.out];exact h2⟩]);clear h2
           go_wp2_with (go_at_call 129;refine HMv2.out.mono ?_;rintro e w5 ⟨A5,c5,rfl,hb5⟩)
           have hoS:=ho.below hb5;have ho3S:=ho3.below hb5;have hbS:=hb.trans (hb5.mono hsw)
           go_loopw [11] (fun i wr=>∃ k:Nat,k<=4/\i=.int .i64 k/\Ow wr w.heap.size (some ⟨g,0,none⟩) 16 cc (pIn m 4 u a b (pB m 4 4 u a (pA m 4 4 u (pU m 4 4 u) a) b) k)/\Ow wr (g+1) (some ⟨g3,0,none⟩) 4 c3 (lineTo 4 u 4)/\Below w.heap.size w wr) (fun i _=>4-(intOf i).toNat)
           case atStart=>exact ⟨0,Nat.zero_le _,rfl,hoS,ho3S,hbS⟩
           case round=>
            clear ho ho3 hb hoS ho3S hbS hca hcb hck hck2 hsw hgw3 hbbw HMv2 hb5;obtain ⟨k,hk,rfl,ho,ho3,hb⟩:=hrel
            by_cases hkT:k<4
            ·have hkI:(k:Int)<4:=(by omega);obtain ⟨qk,hqk,hqkn⟩:=hat.out k hkT;have Hqk:=Lib.hid (show lcN 4 u k=qk by simp [lcN,hqk]);have hE2:Hid (pIn m 4 u a b (pB m 4 4 u a (pA m 4 4 u (pU m 4 4 u) a) b) (k+1)=if k≠a/\k≠b then (pIn m 4 u a b (pB m 4 4 u a (pA m 4 4 u (pU m 4 4 u) a) b) k).set qk (bits .andNot .i64 (nth (pIn m 4 u a b (pB m 4 4 u a (pA m 4 4 u (pU m 4 4 u) a) b) k) qk) (nth m qa)) else pIn m 4 u a b (pB m 4 4 u a (pA m 4 4 u (pU m 4 4 u) a) b) k):=Lib.hid (by simp only [pIn];rw [Hqa.out,Hqk.out])
             by_cases e1:k=a
             ·have f1:((k:Int) != (a:Int))=false:=(by simp [e1]);have Hk:=Lib.hid (hE2.out.trans (if_neg (fun e=>e.1 e1)));clear e1
              go_wp2
              go_roundw
              case rel=>exact ⟨k+1,by omega,by go_num,by rw [Hk.out];exact ho,ho3,hb⟩
              case measure=>simp [intOf];omega
             ·have f1:((k:Int) != (a:Int))=true:=(by simp;omega)
              by_cases e2:k=b
              ·have f2:((k:Int) != (b:Int))=false:=(by simp [e2]);have Hk:=Lib.hid (hE2.out.trans (if_neg (fun e=>e.2 e2)));clear e1 e2
               go_wp2
               go_roundw
               case rel=>exact ⟨k+1,by omega,by go_num,by rw [Hk.out];exact ho,ho3,hb⟩
               case measure=>simp [intOf];omega
              ·have f2:((k:Int) != (b:Int))=true:=(by simp;omega);have Hk:=Lib.hid (hE2.out.trans (if_pos ⟨e1,e2⟩));clear e1 e2;obtain ⟨hck,_⟩:=ho3.cell hkT;rw [show nth (lineTo 4 u 4) k=(qk:Int) by rw [<- hqk];simp [lineTo,nth,List.getD_eq_getElem?_getD,hkT]] at hck;obtain ⟨hcell,hfr⟩:=ho.cell hqkn;have hput:=Lib.hid (ho.putN qk (bits .andNot .i64 (nth (pIn m 4 u a b (pB m 4 4 u a (pA m 4 4 u (pU m 4 4 u) a) b) k) qk) (nth m qa)));have ho3p:=Lib.hid (ho3.far (row:=some g) (grown_set (w:=wr) (G:=g) (i:=qk) (v:=.int .i64 (bits .andNot .i64 (nth (pIn m 4 u a b (pB m 4 4 u a (pA m 4 4 u (pU m 4 4 u) a) b) k) qk) (nth m qa)))) (fun b hb e=>by have:=ho3.own_lo b hb;injection e with e;omega))
               go_wp2
               go_region
               go_wp2
               go_roundw
               case rel=>exact ⟨k+1,by omega,by go_num,by rw [Hk.out];exact hput.out,ho3p.out,below_drewN (Below.setCell (p:=(⟨g,qk,none⟩:Addr)) hb hgl _) 1⟩
               case measure=>simp [intOf];omega
            ·obtain rfl:k=4:=by omega
             go_wp2
             go_roundw
             case rel=>exact ⟨b+1,by omega,by go_num,by rw [Hs.out];exact ho,ho3,hb⟩
             case measure=>simp [intOf];omega
          ·have h2I:((q:Int) != 2)=true:=(by simp;omega);have Hs:=Lib.hid (show pB m 4 4 u a (pA m 4 4 u (pU m 4 4 u) a) (b+1)=pB m 4 4 u a (pA m 4 4 u (pU m 4 4 u) a) b by rw [hE1.out,if_neg (fun e=>h2 (by rw [Hq.out];exact e.2))]);clear h2
           go_wp2_with (go_at_call 129;refine HMv2.out.mono ?_;rintro e w5 ⟨A5,c5,rfl,hb5⟩)
           go_roundw
           case rel=>exact ⟨b+1,by omega,by go_num,by rw [Hs.out];exact ho.below hb5,ho3.below hb5,hb.trans (hb5.mono hsw)⟩
           case measure=>simp [intOf];omega
         ·have h1I:(nth m qa != nth m qb)=true:=(by simp;exact h1);have Hs:=Lib.hid (show pB m 4 4 u a (pA m 4 4 u (pU m 4 4 u) a) (b+1)=pB m 4 4 u a (pA m 4 4 u (pU m 4 4 u) a) b by rw [hE1.out,if_neg (fun e=>h1 e.1)]);clear h1
          go_wp2
          go_roundw
          case rel=>exact ⟨b+1,by omega,by go_num,by rw [Hs.out];exact ho,ho3,hb⟩
          case measure=>simp [intOf];omega
        ·obtain rfl:b=a:=by omega
         go_wp2
         go_roundw
         case rel=>exact ⟨b+1,by omega,by go_num,ho,ho3,hb⟩
         case measure=>simp [intOf];omega
      ·have haT':a=4:=(by omega);have haI:¬ (a:Int)<4:=(by omega);have Ho:Hid (Ow wr w.heap.size (some ⟨g,0,none⟩) 16 cc (pU m 4 4 (u+1))):=Lib.hid (by subst haT';exact ho);clear ho haT' haT ha
       go_wp2
       go_roundw
       case rel=>exact ⟨u+1,by omega,by go_num,Ho.out,hb⟩
       case measure=>simp [intOf];omega
    ·obtain rfl:u=2*4:=by omega
     go_wp2
     go_ret
     rw [HL.out];have hnl:=Lib.hid (pU_len m 4 4 (2*4));exact ⟨_,_,by rw [hnl.out,hlen.out];rfl,by rw [hnl.out,hlen.out];exact ho,hb⟩
end Go.Proofs.YtkeoflnmbcdmfaaGreatDoor
set_option maxRecDepth 8000
namespace Go.Proofs.YtkeoflnmbcdmfaaGreatDoor
open Go.ChangeShapes Go.WideShapes Go.ChangeAt Go.RowKit
def Sub (a b:List Int):Prop:=a.length=b.length/\∀ k,k<b.length->0<=nth a k/\nth a k<=nth b k/\(nth a k).tmod 2=0
theorem mvd_nth {m:List Int} {s:Int} (h:mvd m s=true) (i:Nat):0<=nth m i/\nth m i<=30/\(nth m i).tmod 2=0:=by
 by_cases hi:i<m.length
 ·exact (mvd_at h).2.2.2 i hi
 ·have:nth m i=0:=by simp [nth,List.getD_eq_getElem?_getD,List.getElem?_eq_none (by omega:m.length<=i)]
  rw [this];decide
theorem Sub.of_mvd {m:List Int} {s:Int} (h:mvd m s=true):Sub m m:=⟨rfl,fun k _=>⟨(mvd_nth h k).1,Int.le_refl _,(mvd_nth h k).2.2⟩⟩
theorem Sub.trans {a b c:List Int} (h:Sub a b) (h':Sub b c):Sub a c:=
 ⟨h.1.trans h'.1,fun k hk=>by
   obtain ⟨x1,x2,x3⟩:=h.2 k (by rw [h'.1];exact hk);obtain ⟨_,y2,_⟩:=h'.2 k hk
   exact ⟨x1,by omega,x3⟩⟩
theorem Sub.put {o b:List Int} (h:Sub o b) {k:Nat} {v:Int} (hv:k<b.length->0<=v/\v<=nth b k/\v.tmod 2=0):Sub (o.set k v) b:=by
 refine ⟨by rw [List.length_set];exact h.1,fun j hj=>?_⟩
 by_cases e:k=j
 ·subst e;rw [nth_set (by rw [h.1];exact hj),if_pos rfl];exact hv hj
 ·have:nth (o.set k v) j=nth o j:=by simp only [nth,List.getD_eq_getElem?_getD,List.getElem?_set];rw [if_neg e]
  rw [this];exact h.2 j hj
theorem Sub.mvd_ {a b:List Int} {s:Int} (h:Sub a b) (hb:mvd b s=true):mvd a s=true:=by
 simp only [mvd,Bool.and_eq_true,beq_iff_eq] at hb ⊢;refine ⟨⟨hb.1.1,by rw [h.1];exact hb.1.2⟩,allTo_all (n:=a.length) (fun k hk=>?_) rfl⟩
 have hkb:k<b.length:=by rw [<- h.1];exact hk
 obtain ⟨x1,x2,x3⟩:=h.2 k hkb;have:=List.all_eq_true.1 hb.2 b[k] (List.getElem_mem hkb);simp only [mkOk,Bool.and_eq_true,beq_iff_eq] at this ⊢;obtain ⟨y1,y2⟩:=inr_t this.1
 have e:nth b k=b[k]:=by simp [nth,List.getD_eq_getElem?_getD,hkb]
 exact ⟨by simp only [inr,decide_eq_true_eq];omega,x3⟩
theorem an_key:∀ x,x<32->∀ y,y<32->(0<=bits .andNot .i64 (x:Nat) (y:Nat)/\bits .andNot .i64 (x:Nat) (y:Nat)<=(x:Nat)/\(x%2=0->(bits .andNot .i64 (x:Nat) (y:Nat)).tmod 2=0)):=by decide +kernel
theorem an_sub {x y:Int} (hx:0<=x/\x<=30/\x.tmod 2=0) (hy:0<=y/\y<=30):0<=bits .andNot .i64 x y/\bits .andNot .i64 x y<=x/\(bits .andNot .i64 x y).tmod 2=0:=by
 obtain ⟨a,rfl⟩:=Int.eq_ofNat_of_zero_le hx.1;obtain ⟨b,rfl⟩:=Int.eq_ofNat_of_zero_le hy.1;obtain ⟨q1,q2,q3⟩:=an_key a (by omega) b (by omega);exact ⟨q1,q2,q3 (by have:=hx.2.2;rw [Int.tmod_eq_emod_of_nonneg (by omega)] at this;omega)⟩
theorem ad_key:∀ x,x<32->∀ v,v<5->(0<=bits .and .i64 (x:Nat) (2^v)/\bits .and .i64 (x:Nat) (2^v)<=(x:Nat)/\(x%2=0->(bits .and .i64 (x:Nat) (2^v)).tmod 2=0)):=by decide +kernel
theorem ad_sub {x:Int} {v:Nat} (hx:0<=x/\x<=30/\x.tmod 2=0) (hv:v<=4):0<=bits .and .i64 x (2^v)/\bits .and .i64 x (2^v)<=x/\(bits .and .i64 x (2^v)).tmod 2=0:=by
 obtain ⟨a,rfl⟩:=Int.eq_ofNat_of_zero_le hx.1;obtain ⟨q1,q2,q3⟩:=ad_key a (by omega) v (by omega);exact ⟨q1,q2,q3 (by have:=hx.2.2;rw [Int.tmod_eq_emod_of_nonneg (by omega)] at this;omega)⟩
theorem Sub.at_ {o m:List Int} {s:Int} (h:Sub o m) (hm:mvd m s=true) {k:Nat} (hk:k<m.length):(0<=nth o k/\nth o k<=30/\(nth o k).tmod 2=0)/\nth o k<=nth m k:=by
 obtain ⟨x1,x2,x3⟩:=h.2 k hk;have:=mvd_nth hm k;exact ⟨⟨x1,by omega,x3⟩,x2⟩
theorem Sub.anput {o m:List Int} {s y:Int} (h:Sub o m) (hm:mvd m s=true) (hy:0<=y/\y<=30) (k:Nat):Sub (o.set k (bits .andNot .i64 (nth o k) y)) m:=
 h.put fun hk=>by
  obtain ⟨h1,h2⟩:=h.at_ hm hk;obtain ⟨q1,q2,q3⟩:=an_sub h1 hy;exact ⟨q1,by omega,q3⟩
theorem nsIn_sub {m o:List Int} {s:Int} {S i:Nat} (hm:mvd m s=true) (h:Sub o m) (k:Nat):Sub (nsIn m S i o k) m:=by
 induction k with
 |zero=>exact h
 |succ k ih=>
  simp only [nsIn]
  split
  ·exact ih.anput hm ⟨(mvd_nth hm i).1,(mvd_nth hm i).2.1⟩ k
  ·exact ih
theorem nsTo_sub {m:List Int} {s:Int} {S n:Nat} (hm:mvd m s=true) (i:Nat):Sub (nsTo m S n i) m:=by
 induction i with
 |zero=>exact Sub.of_mvd hm
 |succ i ih=>
  simp only [nsTo]
  split
  ·exact nsIn_sub hm ih n
  ·exact ih
theorem ns_sub {m:List Int} {s:Int} (hm:mvd m s=true) (n:Nat):Sub (nsL m s n) m:=by
 unfold nsL;rw [if_pos hm];exact nsTo_sub hm n
theorem hVs_sub {m o:List Int} {s S:Int} {N:Nat} {u:Int} (hm:mvd m s=true) (h:Sub o m) (r:Nat) (hr:r<=4):Sub (hVs m S N u o r) m:=by
 induction r with
 |zero=>exact h
 |succ r ih=>
  have ih:=ih (by omega);simp only [hVs]
  split
  ·exact ih.put fun hk=>by
    obtain ⟨h1,h2⟩:=ih.at_ hm hk;obtain ⟨q1,q2,q3⟩:=ad_sub (v:=r+1) h1 (by omega);exact ⟨q1,by omega,q3⟩
  ·exact ih
theorem hU_sub {m:List Int} {s S:Int} {N:Nat} (hm:mvd m s=true) (hN:N<=4) (u:Nat):Sub (hU m S N u) m:=by
 induction u with
 |zero=>exact Sub.of_mvd hm
 |succ u ih=>simp only [hU];exact hVs_sub hm ih N hN
theorem nh_sub {m:List Int} {s:Int} (hm:mvd m s=true):Sub (nhL m s) m:=by
 unfold nhL;rw [if_pos hm];exact hU_sub hm (by have:=(mvd_at hm).1;omega) _
theorem pIn_sub {m o:List Int} {s S u:Int} {a b:Nat} (hm:mvd m s=true) (h:Sub o m) (k:Nat):Sub (pIn m S u a b o k) m:=by
 induction k with
 |zero=>exact h
 |succ k ih=>
  simp only [pIn]
  split
  ·exact ih.anput hm ⟨(mvd_nth hm _).1,(mvd_nth hm _).2.1⟩ _
  ·exact ih
theorem pB_sub {m o:List Int} {s S u:Int} {N a:Nat} (hm:mvd m s=true) (h:Sub o m) (b:Nat):Sub (pB m S N u a o b) m:=by
 induction b with
 |zero=>exact h
 |succ b ih=>
  simp only [pB]
  split
  ·exact pIn_sub hm ih N
  ·exact ih
theorem pA_sub {m o:List Int} {s S u:Int} {N:Nat} (hm:mvd m s=true) (h:Sub o m) (a:Nat):Sub (pA m S N u o a) m:=by
 induction a with
 |zero=>exact h
 |succ a ih=>simp only [pA];exact pB_sub hm ih a
theorem pU_sub {m:List Int} {s S:Int} {N:Nat} (hm:mvd m s=true) (u:Nat):Sub (pU m S N u) m:=by
 induction u with
 |zero=>exact Sub.of_mvd hm
 |succ u ih=>simp only [pU];exact pA_sub hm ih N
theorem np_sub {m:List Int} {s:Int} (hm:mvd m s=true):Sub (npL m s) m:=by
 unfold npL;rw [if_pos hm];exact pU_sub hm _
theorem allW_bits {ms:List Int}:∀ {d:Nat} {vs ys:List Int},ys∈allW ms d vs->(∀ i,i<vs.length->nth ys i=nth vs i)/\∀ i,vs.length<=i->i<vs.length+d->nth ys i∈bitsTo (nth ms i).toNat 4:=by
 intro d
 induction d with
 |zero=>intro vs ys h;simp [allW] at h;subst h;exact ⟨fun _ _=>rfl,fun i h1 h2=>absurd h2 (by omega)⟩
 |succ d ih=>
  intro vs ys h;simp only [allW,List.mem_flatMap] at h;obtain ⟨x,hx,h⟩:=h;obtain ⟨h1,h2⟩:=ih h;rw [List.length_append,List.length_singleton] at h1 h2;refine ⟨fun i hi=>?_,fun i hi hi2=>?_⟩
  ·rw [h1 i (by omega),nth_push rfl,if_pos hi]
  ·by_cases e:i=vs.length
   ·subst e;rw [h1 _ (by omega),nth_push rfl,if_neg (by omega),if_pos rfl];exact hx
   ·exact h2 i (by omega) (by omega)
theorem foldAll_bit {j t:Nat}:∀ (L:List (List Int)) (G:List Nat),j<G.length->((L.foldl orAll G).getD j 0).testBit t=true->(G.getD j 0).testBit t=true\/∃ ys∈L,(nth ys j).toNat=t:=by
 intro L
 induction L with
 |nil=>intro G _ h;exact .inl h
 |cons ys L ih=>
  intro G hj h
  rcases ih (orAll G ys) (by rw [orAll_length];exact hj) h with h|⟨zs,hz,e⟩
  ·unfold orAll at h;rw [orTo_get hj,if_pos hj,Nat.testBit_or,Bool.or_eq_true] at h
   rcases h with h|h
   ·exact .inl h
   ·rw [Nat.testBit_two_pow,decide_eq_true_eq] at h;exact .inr ⟨ys,List.mem_cons_self ..,h⟩
  ·exact .inr ⟨zs,List.mem_cons_of_mem _ hz,e⟩
theorem le_of_bits {a b:Nat} (h:∀ t,a.testBit t=true->b.testBit t=true):a<=b:=by
 have e:a&&&b=a:=by
  apply Nat.eq_of_testBit_eq
  intro t;rw [Nat.testBit_and];cases ha:a.testBit t
  ·rfl
  ·rw [h t ha];rfl
 rw [<- e];exact Nat.and_le_right
theorem rm_sub {k v s:Int} {xs o:List Int} (hv:rv k xs v s=true) (hm:mvd o s=true) {j:Nat} (hj:j<xs.length):0<=nth (rmL k xs v o s) j/\nth (rmL k xs v o s) j<=nth o (nth xs j).toNat/\(nth (rmL k xs v o s) j).tmod 2=0:=by
 rw [rm_ways rfl hv hm,nats_nth]
 have hbit:∀ t,(((waysN k v (pks o xs xs.length) xs.length).foldl orAll (zerosN xs.length)).getD j 0).testBit t=true->1<=t/\(nth o (nth xs j).toNat).toNat.testBit t=true:=fun t ht=>by
  rcases foldAll_bit _ _ (by simpa [zerosN] using hj) ht with h|⟨ys,hys,e⟩
  ·simp [zerosN,List.getD_eq_getElem?_getD,hj] at h
  ·have hy:=(allW_bits (List.mem_filter.1 hys).1).2 j (Nat.zero_le _) (by simpa using hj);rw [pks_nth hj] at hy;obtain ⟨u,hu,u1,_,u3⟩:=bits_iff.1 hy;rw [hu] at e;have e2:u=t:=(by simpa using e);subst e2;exact ⟨u1,u3⟩
 obtain ⟨a,ha⟩:∃ a,((waysN k v (pks o xs xs.length) xs.length).foldl orAll (zerosN xs.length)).getD j 0=a:=⟨_,rfl⟩;rw [ha] at hbit ⊢;have hle:=le_of_bits (fun t ht=>(hbit t ht).2);have h0:=(mvd_nth hm (nth xs j).toNat).1;refine ⟨by omega,by omega,?_⟩;rw [Int.tmod_eq_emod_of_nonneg (by omega)]
 have:a.testBit 0=false:=by
  cases hb:a.testBit 0
  ·rfl
  ·have:=(hbit 0 hb).1;omega
 rw [Nat.testBit_zero] at this
 have:a%2≠1:=by simpa using this
 omega
theorem rm_len {k v s:Int} {xs o:List Int} (hv:rv k xs v s=true) (hm:mvd o s=true):(rmL k xs v o s).length=xs.length:=by
 unfold rmL;rw [hv,hm,Bool.true_and,if_pos rfl,nats_length];exact (rmN_inv k xs v o).1
def nrIn (xs f o:List Int):Nat->List Int
 |0=>o
 |j+1=>(nrIn xs f o j).set (nth xs j).toNat (nth f j)
def nrTo (s:Int) (rs:List RuleM) (m:List Int):Nat->List Int
 |0=>m
 |u+1=>nrIn (rat rs u).xs (rmL (rat rs u).k (rat rs u).xs (rat rs u).v (nrTo s rs m u) s) (nrTo s rs m u) (rat rs u).xs.length
def nrL (s:Int) (gi:List Int) (rs:List RuleM) (m:List Int):List Int:=if (pvB s gi rs&&mvd m s)=true then nrTo s rs m rs.length else []
theorem nrIn_sub {k v s:Int} {xs o:List Int} (hv:rv k xs v s=true) (hm:mvd o s=true) (j:Nat) (hj:j<=xs.length):Sub (nrIn xs (rmL k xs v o s) o j) o:=by
 induction j with
 |zero=>exact Sub.of_mvd hm
 |succ j ih=>exact (ih (by omega)).put fun _=>rm_sub hv hm (by omega)
theorem nrTo_sub {s:Int} {rs:List RuleM} {m:List Int} (hm:mvd m s=true) (hr:∀ i,i<rs.length->rvR s (rat rs i)=true) (u:Nat) (hu:u<=rs.length):Sub (nrTo s rs m u) m:=by
 induction u with
 |zero=>exact Sub.of_mvd hm
 |succ u ih=>
  have ih:=ih (by omega);exact (nrIn_sub (hr u (by omega)) (ih.mvd_ hm) _ (Nat.le_refl _)).trans ih
theorem nr_sub {s:Int} {gi:List Int} {rs:List RuleM} {m:List Int} (hv:pvB s gi rs=true) (hm:mvd m s=true):Sub (nrL s gi rs m) m:=by
 unfold nrL;rw [hv,hm,Bool.true_and,if_pos rfl];exact nrTo_sub hm (pv_gv hv).2.2 _ (Nat.le_refl _)
end Go.Proofs.YtkeoflnmbcdmfaaGreatDoor
