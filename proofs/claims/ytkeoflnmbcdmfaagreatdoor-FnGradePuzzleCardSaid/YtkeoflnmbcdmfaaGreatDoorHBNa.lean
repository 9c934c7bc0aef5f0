import Derived.Test.YtkeoflnmbcdmfaaGreatDoorHBNs
set_option maxRecDepth 8000
namespace Go.Proofs.YtkeoflnmbcdmfaaGreatDoor
open Go.ChangeShapes Go.WideShapes Go.ChangeAt Go.RowKit
def hB (m:List Int) (S u:Int) (v k:Nat):Bool:=(nth m (lineAt S u k).toNat).toNat.testBit v
def hC (m:List Int) (S u:Int) (v:Nat):Nat->Nat
 |0=>0
 |k+1=>if hB m S u v k=true then hC m S u v k+1 else hC m S u v k
def hL (m:List Int) (S u:Int) (v:Nat):Nat->Nat
 |0=>0
 |k+1=>if hB m S u v k=true then (lineAt S u k).toNat else hL m S u v k
def hVs (m:List Int) (S:Int) (N:Nat) (u:Int) (o:List Int):Nat->List Int
 |0=>o
 |r+1=>if hC m S u (r+1) N=1 then (hVs m S N u o r).set (hL m S u (r+1) N) (bits .and .i64 (nth (hVs m S N u o r) (hL m S u (r+1) N)) (2^(r+1))) else hVs m S N u o r
def hU (m:List Int) (S:Int) (N:Nat):Nat->List Int
 |0=>m
 |u+1=>hVs m S N u (hU m S N u) N
def nhL (m:List Int) (S:Int):List Int:=if mvd m S=true then hU m S S.toNat (2*S.toNat) else []
theorem hC_le (m:List Int) (S u:Int) (v k:Nat):hC m S u v k<=k:=by
 induction k with
 |zero=>exact Nat.le_refl _
 |succ k ih=>simp only [hC];split<;>omega
theorem hL_lt {m:List Int} {S u:Int} {v n k:Nat} (h:∀ j,j<k->(lineAt S u j).toNat<n) (h0:0<n):hL m S u v k<n:=by
 induction k with
 |zero=>exact h0
 |succ k ih=>
  simp only [hL]
  split
  ·exact h k (by omega)
  ·exact ih (fun j hj=>h j (by omega))
theorem hVs_len (m:List Int) (S:Int) (N:Nat) (u:Int) (o:List Int) (r:Nat):(hVs m S N u o r).length=o.length:=by
 induction r with
 |zero=>rfl
 |succ r ih=>
  simp only [hVs]
  split
  ·rw [List.length_set,ih]
  ·exact ih
theorem hU_len (m:List Int) (S:Int) (N u:Nat):(hU m S N u).length=m.length:=by
 induction u with
 |zero=>rfl
 |succ u ih=>simp only [hU];rw [hVs_len,ih]
theorem pow_wrap5 {r:Nat} (h:r<4):wrap64 ((2:Int)^(r+1))=2^(r+1):=by
 have:r=0\/r=1\/r=2\/r=3:=by omega
 rcases this with rfl|rfl|rfl|rfl<;>exact IntWalk.wrap64_in _ ⟨by decide,by decide⟩
set_option maxHeartbeats 8000000 in
theorem specNarrowHidden (A:Option Addr) (c n B:Nat) (m:List Int) (s:Int) (w:World) (h:Rd w B A n m) (hB':B<=w.heap.size) (hm:n<=1099511627776) (hsb: -9223372036854775808<=s/\s<=9223372036854775807):
 Calls Tryz.prog 143 #[.slice A n c,.int .i64 s] w (RetSl w (nhL m s)):=by
 have hlen:=Lib.hid h.1;have HV:=Lib.hid (specMasksValid A c n B m s w h hB' hm hsb);cases hv:mvd m s
 ·have HL:=Lib.hid (show nhL m s=[] by simp [nhL,hv])
  go_enter Tryz.func143,Tryz.ntmps143
  go_wp2_with (go_at_call 127;refine HV.out.mono ?_;rintro e w1 ⟨rfl,hb1⟩;rw [hv])
  go_ret
  rw [HL.out];exact ⟨_,_,rfl,Ow.made0 _ _ hb1.size,hb1.alloc hb1.size _⟩
 ·obtain ⟨⟨h2,h4⟩,hsq,hn16,hrng⟩:=mvd_at hv;rw [hlen.out] at hsq hn16 hrng
  have hs3:s=2\/s=3\/s=4:=by omega
  clear h2 h4;have HCp:=Lib.hid (fun w' (hb:Below w.heap.size w w')=>specL6Copy A n c B m w' (h.below (hb.mono hB')) (Nat.le_trans hB' hb.size) hm);have Hrng:=Lib.hid (fun k (hk:k<n)=>(hrng k hk).1);clear hrng
  rcases hs3 with rfl|rfl|rfl
  ·obtain rfl:n=4:=by omega
   have HL:=Lib.hid (show nhL m 2=hU m 2 2 (2*2) by simp [nhL,hv]);have Hv:=Lib.hid hv;clear hv
   go_enter Tryz.func143,Tryz.ntmps143
   go_wp2_with (first
    |(go_at_call 127;refine HV.out.mono ?_;rintro e w1 ⟨rfl,hb1⟩;rw [Hv.out])
    |(go_at_call 128;refine (HCp.out _ hb1).mono ?_;rintro e w2 ⟨Ac,cc,rfl,ho2,hb2⟩))
   have hb12:=step hb1 hb2;have ho2':=ho2.mono hb1.size;obtain ⟨g,rfl,hgl,hgw⟩:=ho2'.form (by omega)
   go_loopw [6] (fun i wr=>∃ u:Nat,u<=2*2/\i=.int .i64 u/\Ow wr w.heap.size (some ⟨g,0,none⟩) 4 cc (hU m 2 2 u)/\Below w.heap.size w wr) (fun i _=>2*2-(intOf i).toNat)
   case atStart=>exact ⟨0,Nat.zero_le _,rfl,ho2',hb12⟩
   case round=>
    obtain ⟨u,hu,rfl,ho,hb⟩:=hrel
    by_cases hlt:u<2*2
    ·have hltI:(u:Int)<2*2:=(by omega);have hgr:=ho.own_hi g rfl
     have hat:Hid (∀ j,j<2->∃ q:Nat,lineAt 2 u j=(q:Int)/\q<4):=Lib.hid (fun j hj=>by
      by_cases hx:(u:Int)<2
      ·rw [lineAt_row hx];exact ⟨u*2+j,by omega,by omega⟩
      ·rw [lineAt_col hx]
       exact ⟨j*2+u-2,by omega,by omega⟩)
     have hsw:=hb.size
     have HLc:Hid (Calls Tryz.prog 172 #[.int .i64 2,.int .i64 u] wr fun e w''=>∃ g3 c3,e=.returned (.slice (some ⟨g3,0,none⟩) 2 c3)/\Ow w'' wr.heap.size (some ⟨g3,0,none⟩) 2 c3 (lineTo 2 u 2)/\Below wr.heap.size wr w''):=Lib.hid ((specLineCells 2 u wr ⟨by omega,by omega⟩).mono (by
      rintro e w'' ⟨A3,c3,rfl,ho3,hb3⟩
      have e1:lineL 2 u=lineTo 2 u 2:=by
       have:lineOk 2 u=true:=(by simp [lineOk,inr];omega)
       simp [lineL,this]
      rw [e1,lineTo_length] at ho3;rw [e1,lineTo_length];obtain ⟨g3,rfl,_,_⟩:=ho3.form (by omega)
      exact ⟨g3,c3,rfl,ho3,hb3⟩))
     go_wp2_with (go_at_call 172;refine HLc.out.mono ?_;rintro e w3 ⟨g3,c3,rfl,ho3,hb3⟩)
     have hg3:=ho3.own_lo g3 rfl;have hoA:=ho.below hb3;have hbA:=hb.trans (hb3.mono hsw)
     go_loopw [8] (fun i wr=>∃ r:Nat,r<=2/\i=.int .i64 ((r:Int)+1)/\Ow wr w.heap.size (some ⟨g,0,none⟩) 4 cc (hVs m 2 2 u (hU m 2 2 u) r)/\Ow wr (g+1) (some ⟨g3,0,none⟩) 2 c3 (lineTo 2 u 2)/\Below w.heap.size w wr) (fun i _=>2+1-(intOf i).toNat)
     case atStart=>exact ⟨0,Nat.zero_le _,by simp,hoA,ho3.mono (by omega),hbA⟩
     case round=>
      clear ho3 hoA hbA hb3 ho hb hsw HLc;obtain ⟨r,hr,rfl,ho,ho3,hb⟩:=hrel
      by_cases hrT:r<2
      ·have hrI:(r:Int)+1<=2:=(by omega);have hmr:=(h.below (hb.mono hB'))
       go_wp2
       obtain ⟨WR,hWR⟩:∃ WR,WR=wr:=⟨_,rfl⟩;rw [<- hWR];rw [<- hWR] at ho ho3 hb hmr;clear hWR
       go_loopw [9,10,11] (fun cn la i wr=>wr=WR/\∃ k:Nat,k<=2/\i=.int .i64 k/\cn=.int .i64 (hC m 2 u (r+1) k:Nat)/\la=.int .i64 (hL m 2 u (r+1) k:Nat)) (fun _ _ i _=>2-(intOf i).toNat)
       case atStart=>exact ⟨rfl,0,Nat.zero_le _,rfl,rfl,rfl⟩
       case round=>
        obtain ⟨rfl,k,hk,rfl,rfl,rfl⟩:=hrel
        by_cases hkT:k<2
        ·have hkI:(k:Int)<2:=(by omega);obtain ⟨q,hq,hqn⟩:=hat.out k hkT;obtain ⟨hc3,_⟩:=ho3.cell hkT;rw [show nth (lineTo 2 u 2) k=(q:Int) by rw [<- hq];simp [lineTo,nth,List.getD_eq_getElem?_getD,hkT]] at hc3;obtain ⟨b,off,hA,hbB,hck⟩:=hmr.at_ hqn;subst hA;obtain ⟨M,hM⟩:=Int.eq_ofNat_of_zero_le (Hrng.out q hqn);rw [hM] at hck;have hsh:=shr_bit M (r+1);have hcl:=hC_le m 2 u (r+1) k;have hbit:hB m 2 u (r+1) k=M.testBit (r+1):=(by simp only [hB,hq,Int.toNat_natCast];rw [hM];simp);cases hh:M.testBit (r+1)
         ·rw [hh] at hsh hbit;have H1:=Lib.hid (show hC m 2 u (r+1) (k+1)=hC m 2 u (r+1) k by simp [hC,hbit]);have H2:=Lib.hid (show hL m 2 u (r+1) (k+1)=hL m 2 u (r+1) k by simp [hL,hbit]);clear hh hbit hM hq
          go_wp2
          go_roundw
          case rel=>exact ⟨by trivial,k+1,by omega,by go_num,by rw [H1.out],by rw [H2.out]⟩
          case measure=>simp [intOf];omega
         ·rw [hh] at hsh hbit;have H1:=Lib.hid (show hC m 2 u (r+1) (k+1)=hC m 2 u (r+1) k+1 by simp [hC,hbit]);have H2:=Lib.hid (show hL m 2 u (r+1) (k+1)=q by simp [hL,hbit,hq]);clear hh hbit hM hq
          go_wp2
          go_roundw
          case rel=>exact ⟨by trivial,k+1,by omega,by go_num,by rw [H1.out];simp,by rw [H2.out]⟩
          case measure=>simp [intOf];omega
        ·obtain rfl:k=2:=by omega
         obtain ⟨q,hq⟩:∃ q,hC m 2 u (r+1) 2=q:=⟨_,rfl⟩;obtain ⟨l,hl⟩:∃ l,hL m 2 u (r+1) 2=l:=⟨_,rfl⟩
         have hln:l<4:=by
          rw [<- hl];exact hL_lt (fun j hj=>by obtain ⟨q,hq,hqn⟩:=hat.out j hj;rw [hq];simpa using hqn) (by omega)
         have Hq:=Lib.hid hq;have Hl:=Lib.hid hl;rw [hq,hl];clear hq hl
         by_cases h1:q=1
         ·have H3:=Lib.hid (show hVs m 2 2 u (hU m 2 2 u) (r+1)=(hVs m 2 2 u (hU m 2 2 u) r).set l (bits .and .i64 (nth (hVs m 2 2 u (hU m 2 2 u) r) l) (2^(r+1))) by simp only [hVs];rw [Hq.out,Hl.out,if_pos h1]);have h1I:((q:Int)==1)=true:=(by simp [h1]);clear h1;obtain ⟨hcell,hfr⟩:=ho.cell hln;have hput:=Lib.hid (ho.putN l (bits .and .i64 (nth (hVs m 2 2 u (hU m 2 2 u) r) l) (2^(r+1))));have ho3p:=Lib.hid (ho3.far (row:=some g) (grown_set (w:=wr) (G:=g) (i:=l) (v:=.int .i64 (bits .and .i64 (nth (hVs m 2 2 u (hU m 2 2 u) r) l) (2^(r+1))))) (fun b hb e=>by have:=ho3.own_lo b hb;injection e with e;omega))
          have hw2:wrap64 ((2:Int)^(r+1))=2^(r+1):=pow_wrap5 (by omega)
          go_wp2
          go_region
          go_wp2
          go_roundw
          case rel=>exact ⟨r+1,by omega,by go_num,by rw [H3.out];exact hput.out,ho3p.out,below_drewN (Below.setCell (p:=(⟨g,l,none⟩:Addr)) hb hgl _) 1⟩
          case measure=>simp [intOf];omega
         ·have H3:=Lib.hid (show hVs m 2 2 u (hU m 2 2 u) (r+1)=hVs m 2 2 u (hU m 2 2 u) r by simp only [hVs];rw [Hq.out,if_neg h1]);have h1I:((q:Int)==1)=false:=(by simp;omega);clear h1
          go_wp2
          go_roundw
          case rel=>exact ⟨r+1,by omega,by go_num,by rw [H3.out];exact ho,ho3,hb⟩
          case measure=>simp [intOf];omega
      ·obtain rfl:r=2:=by omega
       go_wp2
       go_roundw
       case rel=>exact ⟨u+1,by omega,by go_num,ho,hb⟩
       case measure=>simp [intOf];omega
    ·obtain rfl:u=2*2:=by omega
     go_wp2
     go_ret
     rw [HL.out];have hnl:=Lib.hid (hU_len m 2 2 (2*2));exact ⟨_,_,by rw [hnl.out,hlen.out];rfl,by rw [hnl.out,hlen.out];exact ho,hb⟩
  ·obtain rfl:n=9:=by omega
   have HL:=Lib.hid (show nhL m 3=hU m 3 3 (2*3) by simp [nhL,hv]);have Hv:=Lib.hid hv;clear hv
   go_enter Tryz.func143,Tryz.ntmps143
   go_wp2_with (first
    |(go_at_call 127;refine HV.out.mono ?_;rintro e w1 ⟨rfl,hb1⟩;rw [Hv.out])
    |(go_at_call 128;refine (HCp.out _ hb1).mono ?_;rintro e w2 ⟨Ac,cc,rfl,ho2,hb2⟩))
   have hb12:=step hb1 hb2;have ho2':=ho2.mono hb1.size;obtain ⟨g,rfl,hgl,hgw⟩:=ho2'.form (by omega)
   go_loopw [6] (fun i wr=>∃ u:Nat,u<=2*3/\i=.int .i64 u/\Ow wr w.heap.size (some ⟨g,0,none⟩) 9 cc (hU m 3 3 u)/\Below w.heap.size w wr) (fun i _=>2*3-(intOf i).toNat)
   case atStart=>exact ⟨0,Nat.zero_le _,rfl,ho2',hb12⟩
   case round=>
    obtain ⟨u,hu,rfl,ho,hb⟩:=hrel
    by_cases hlt:u<2*3
    ·have hltI:(u:Int)<2*3:=(by omega);have hgr:=ho.own_hi g rfl
     have hat:Hid (∀ j,j<3->∃ q:Nat,lineAt 3 u j=(q:Int)/\q<9):=Lib.hid (fun j hj=>by
      by_cases hx:(u:Int)<3
      ·rw [lineAt_row hx];exact ⟨u*3+j,by omega,by omega⟩
      ·rw [lineAt_col hx]
       exact ⟨j*3+u-3,by omega,by omega⟩)
     have hsw:=hb.size
     have HLc:Hid (Calls Tryz.prog 172 #[.int .i64 3,.int .i64 u] wr fun e w''=>∃ g3 c3,e=.returned (.slice (some ⟨g3,0,none⟩) 3 c3)/\Ow w'' wr.heap.size (some ⟨g3,0,none⟩) 3 c3 (lineTo 3 u 3)/\Below wr.heap.size wr w''):=Lib.hid ((specLineCells 3 u wr ⟨by omega,by omega⟩).mono (by
      rintro e w'' ⟨A3,c3,rfl,ho3,hb3⟩
      have e1:lineL 3 u=lineTo 3 u 3:=by
       have:lineOk 3 u=true:=(by simp [lineOk,inr];omega)
       simp [lineL,this]
      rw [e1,lineTo_length] at ho3;rw [e1,lineTo_length];obtain ⟨g3,rfl,_,_⟩:=ho3.form (by omega)
      exact ⟨g3,c3,rfl,ho3,hb3⟩))
     go_wp2_with (go_at_call 172;refine HLc.out.mono ?_;rintro e w3 ⟨g3,c3,rfl,ho3,hb3⟩)
     have hg3:=ho3.own_lo g3 rfl;have hoA:=ho.below hb3;have hbA:=hb.trans (hb3.mono hsw)
     go_loopw [8] (fun i wr=>∃ r:Nat,r<=3/\i=.int .i64 ((r:Int)+1)/\Ow wr w.heap.size (some ⟨g,0,none⟩) 9 cc (hVs m 3 3 u (hU m 3 3 u) r)/\Ow wr (g+1) (some ⟨g3,0,none⟩) 3 c3 (lineTo 3 u 3)/\Below w.heap.size w wr) (fun i _=>3+1-(intOf i).toNat)
     case atStart=>exact ⟨0,Nat.zero_le _,by simp,hoA,ho3.mono (by omega),hbA⟩
     case round=>
      clear ho3 hoA hbA hb3 ho hb hsw HLc;obtain ⟨r,hr,rfl,ho,ho3,hb⟩:=hrel
      by_cases hrT:r<3
      ·have hrI:(r:Int)+1<=3:=(by omega);have hmr:=(h.below (hb.mono hB'))
       go_wp2
       obtain ⟨WR,hWR⟩:∃ WR,WR=wr:=⟨_,rfl⟩;rw [<- hWR];rw [<- hWR] at ho ho3 hb hmr;clear hWR
       go_loopw [9,10,11] (fun cn la i wr=>wr=WR/\∃ k:Nat,k<=3/\i=.int .i64 k/\cn=.int .i64 (hC m 3 u (r+1) k:Nat)/\la=.int .i64 (hL m 3 u (r+1) k:Nat)) (fun _ _ i _=>3-(intOf i).toNat)
       case atStart=>exact ⟨rfl,0,Nat.zero_le _,rfl,rfl,rfl⟩
       case round=>
        obtain ⟨rfl,k,hk,rfl,rfl,rfl⟩:=hrel
        by_cases hkT:k<3
        ·have hkI:(k:Int)<3:=(by omega);obtain ⟨q,hq,hqn⟩:=hat.out k hkT;obtain ⟨hc3,_⟩:=ho3.cell hkT;rw [show nth (lineTo 3 u 3) k=(q:Int) by rw [<- hq];simp [lineTo,nth,List.getD_eq_getElem?_getD,hkT]] at hc3;obtain ⟨b,off,hA,hbB,hck⟩:=hmr.at_ hqn;subst hA;obtain ⟨M,hM⟩:=Int.eq_ofNat_of_zero_le (Hrng.out q hqn);rw [hM] at hck;have hsh:=shr_bit M (r+1);have hcl:=hC_le m 3 u (r+1) k;have hbit:hB m 3 u (r+1) k=M.testBit (r+1):=(by simp only [hB,hq,Int.toNat_natCast];rw [hM];simp);cases hh:M.testBit (r+1)
         ·rw [hh] at hsh hbit;have H1:=Lib.hid (show hC m 3 u (r+1) (k+1)=hC m 3 u (r+1) k by simp [hC,hbit]);have H2:=Lib.hid (show hL m 3 u (r+1) (k+1)=hL m 3 u (r+1) k by simp [hL,hbit]);clear hh hbit hM hq
          go_wp2
          go_roundw
          case rel=>exact ⟨by trivial,k+1,by omega,by go_num,by rw [H1.out],by rw [H2.out]⟩
          case measure=>simp [intOf];omega
         ·rw [hh] at hsh hbit;have H1:=Lib.hid (show hC m 3 u (r+1) (k+1)=hC m 3 u (r+1) k+1 by simp [hC,hbit]);have H2:=Lib.hid (show hL m 3 u (r+1) (k+1)=q by simp [hL,hbit,hq]);clear hh hbit hM hq
          go_wp2
          go_roundw
          case rel=>exact ⟨by trivial,k+1,by omega,by go_num,by rw [H1.out];simp,by rw [H2.out]⟩
          case measure=>simp [intOf];omega
        ·obtain rfl:k=3:=by omega
         obtain ⟨q,hq⟩:∃ q,hC m 3 u (r+1) 3=q:=⟨_,rfl⟩;obtain ⟨l,hl⟩:∃ l,hL m 3 u (r+1) 3=l:=⟨_,rfl⟩
         have hln:l<9:=by
          rw [<- hl];exact hL_lt (fun j hj=>by obtain ⟨q,hq,hqn⟩:=hat.out j hj;rw [hq];simpa using hqn) (by omega)
         have Hq:=Lib.hid hq;have Hl:=Lib.hid hl;rw [hq,hl];clear hq hl
         by_cases h1:q=1
         ·have H3:=Lib.hid (show hVs m 3 3 u (hU m 3 3 u) (r+1)=(hVs m 3 3 u (hU m 3 3 u) r).set l (bits .and .i64 (nth (hVs m 3 3 u (hU m 3 3 u) r) l) (2^(r+1))) by simp only [hVs];rw [Hq.out,Hl.out,if_pos h1]);have h1I:((q:Int)==1)=true:=(by simp [h1]);clear h1;obtain ⟨hcell,hfr⟩:=ho.cell hln;have hput:=Lib.hid (ho.putN l (bits .and .i64 (nth (hVs m 3 3 u (hU m 3 3 u) r) l) (2^(r+1))));have ho3p:=Lib.hid (ho3.far (row:=some g) (grown_set (w:=wr) (G:=g) (i:=l) (v:=.int .i64 (bits .and .i64 (nth (hVs m 3 3 u (hU m 3 3 u) r) l) (2^(r+1))))) (fun b hb e=>by have:=ho3.own_lo b hb;injection e with e;omega))
          have hw2:wrap64 ((2:Int)^(r+1))=2^(r+1):=pow_wrap5 (by omega)
          go_wp2
          go_region
          go_wp2
          go_roundw
          case rel=>exact ⟨r+1,by omega,by go_num,by rw [H3.out];exact hput.out,ho3p.out,below_drewN (Below.setCell (p:=(⟨g,l,none⟩:Addr)) hb hgl _) 1⟩
          case measure=>simp [intOf];omega
         ·have H3:=Lib.hid (show hVs m 3 3 u (hU m 3 3 u) (r+1)=hVs m 3 3 u (hU m 3 3 u) r by simp only [hVs];rw [Hq.out,if_neg h1]);have h1I:((q:Int)==1)=false:=(by simp;omega);clear h1
          go_wp2
          go_roundw
          case rel=>exact ⟨r+1,by omega,by go_num,by rw [H3.out];exact ho,ho3,hb⟩
          case measure=>simp [intOf];omega
      ·obtain rfl:r=3:=by omega
       go_wp2
       go_roundw
       case rel=>exact ⟨u+1,by omega,by go_num,ho,hb⟩
       case measure=>simp [intOf];omega
    ·obtain rfl:u=2*3:=by omega
     go_wp2
     go_ret
     rw [HL.out];have hnl:=Lib.hid (hU_len m 3 3 (2*3));exact ⟨_,_,by rw [hnl.out,hlen.out];rfl,by rw [hnl.out,hlen.out];exact ho,hb⟩
  ·obtain rfl:n=16:=by omega
   have HL:=Lib.hid (show nhL m 4=hU m 4 4 (2*4) by simp [nhL,hv]);have Hv:=Lib.hid hv;clear hv
   go_enter Tryz.func143,Tryz.ntmps143
   go_wp2_with (first
    |(go_at_call 127;refine HV.out.mono ?_;rintro e w1 ⟨rfl,hb1⟩;rw [Hv.out])
    |(go_at_call 128;refine (HCp.out _ hb1).mono ?_;rintro e w2 ⟨Ac,cc,rfl,ho2,hb2⟩))
   have hb12:=step hb1 hb2;have ho2':=ho2.mono hb1.size;obtain ⟨g,rfl,hgl,hgw⟩:=ho2'.form (by omega)
   go_loopw [6] (fun i wr=>∃ u:Nat,u<=2*4/\i=.int .i64 u/\Ow wr w.heap.size (some ⟨g,0,none⟩) 16 cc (hU m 4 4 u)/\Below w.heap.size w wr) (fun i _=>2*4-(intOf i).toNat)
   case atStart=>exact ⟨0,Nat.zero_le _,rfl,ho2',hb12⟩
   case round=>
    obtain ⟨u,hu,rfl,ho,hb⟩:=hrel
    by_cases hlt:u<2*4
    ·have hltI:(u:Int)<2*4:=(by omega);have hgr:=ho.own_hi g rfl
     have hat:Hid (∀ j,j<4->∃ q:Nat,lineAt 4 u j=(q:Int)/\q<16):=Lib.hid (fun j hj=>by
      by_cases hx:(u:Int)<4
      ·rw [lineAt_row hx];exact ⟨u*4+j,by omega,by omega⟩
      ·rw [lineAt_col hx]
       exact ⟨j*4+u-4,by omega,by omega⟩)
     have hsw:=hb.size
     have HLc:Hid (Calls Tryz.prog 172 #[.int .i64 4,.int .i64 u] wr fun e w''=>∃ g3 c3,e=.returned (.slice (some ⟨g3,0,none⟩) 4 c3)/\Ow w'' wr.heap.size (some ⟨g3,0,none⟩) 4 c3 (lineTo 4 u 4)/\Below wr.heap.size wr w''):=Lib.hid ((specLineCells 4 u wr ⟨by omega,by omega⟩).mono (by
      rintro e w'' ⟨A3,c3,rfl,ho3,hb3⟩
      have e1:lineL 4 u=lineTo 4 u 4:=by
       have:lineOk 4 u=true:=(by simp [lineOk,inr];omega)
       simp [lineL,this]
      rw [e1,lineTo_length] at ho3;rw [e1,lineTo_length];obtain ⟨g3,rfl,_,_⟩:=ho3.form (by omega)
      exact ⟨g3,c3,rfl,ho3,hb3⟩))
     go_wp2_with (go_at_call 172;refine HLc.out.mono ?_;rintro e w3 ⟨g3,c3,rfl,ho3,hb3⟩)
     have hg3:=ho3.own_lo g3 rfl;have hoA:=ho.below hb3;have hbA:=hb.trans (hb3.mono hsw)
     go_loopw [8] (fun i wr=>∃ r:Nat,r<=4/\i=.int .i64 ((r:Int)+1)/\Ow wr w.heap.size (some ⟨g,0,none⟩) 16 cc (hVs m 4 4 u (hU m 4 4 u) r)/\Ow wr (g+1) (some ⟨g3,0,none⟩) 4 c3 (lineTo 4 u 4)/\Below w.heap.size w wr) (fun i _=>4+1-(intOf i).toNat)
     case atStart=>exact ⟨0,Nat.zero_le _,by simp,hoA,ho3.mono (by omega),hbA⟩
     case round=>
      clear ho3 hoA hbA hb3 ho hb hsw HLc;obtain ⟨r,hr,rfl,ho,ho3,hb⟩:=hrel
      by_cases hrT:r<4
      ·have hrI:(r:Int)+1<=4:=(by omega);have hmr:=(h.below (hb.mono hB'))
       go_wp2
       obtain ⟨WR,hWR⟩:∃ WR,WR=wr:=⟨_,rfl⟩;rw [<- hWR];rw [<- hWR] at ho ho3 hb hmr;clear hWR
       go_loopw [9,10,11] (fun cn la i wr=>wr=WR/\∃ k:Nat,k<=4/\i=.int .i64 k/\cn=.int .i64 (hC m 4 u (r+1) k:Nat)/\la=.int .i64 (hL m 4 u (r+1) k:Nat)) (fun _ _ i _=>4-(intOf i).toNat)
       case atStart=>exact ⟨rfl,0,Nat.zero_le _,rfl,rfl,rfl⟩
       case round=>
        obtain ⟨rfl,k,hk,rfl,rfl,rfl⟩:=hrel
        by_cases hkT:k<4
        ·have hkI:(k:Int)<4:=(by omega);obtain ⟨q,hq,hqn⟩:=hat.out k hkT;obtain ⟨hc3,_⟩:=ho3.cell hkT;rw [show nth (lineTo 4 u 4) k=(q:Int) by rw [<- hq];simp [lineTo,nth,List.getD_eq_getElem?_getD,hkT]] at hc3;obtain ⟨b,off,hA,hbB,hck⟩:=hmr.at_ hqn;subst hA;obtain ⟨M,hM⟩:=Int.eq_ofNat_of_zero_le (Hrng.out q hqn);rw [hM] at hck;have hsh:=shr_bit M (r+1);have hcl:=hC_le m 4 u (r+1) k;have hbit:hB m 4 u (r+1) k=M.testBit (r+1):=(by simp only [hB,hq,Int.toNat_natCast];rw [hM];simp);cases hh:M.testBit (r+1)
         ·rw [hh] at hsh hbit;have H1:=Lib.hid (show hC m 4 u (r+1) (k+1)=hC m 4 u (r+1) k by simp [hC,hbit]);have H2:=Lib.hid (show hL m 4 u (r+1) (k+1)=hL m 4 u (r+1) k by simp [hL,hbit]);clear hh hbit hM hq
          go_wp2
          go_roundw
          case rel=>exact ⟨by trivial,k+1,by omega,by go_num,by rw [H1.out],by rw [H2.out]⟩
          case measure=>simp [intOf];omega
         ·rw [hh] at hsh hbit;have H1:=Lib.hid (show hC m 4 u (r+1) (k+1)=hC m 4 u (r+1) k+1 by simp [hC,hbit]);have H2:=Lib.hid (show hL m 4 u (r+1) (k+1)=q by simp [hL,hbit,hq]);clear hh hbit hM hq
          go_wp2
          go_roundw
          case rel=>exact ⟨by trivial,k+1,by omega,by go_num,by rw [H1.out];simp,by rw [H2.out]⟩
          case measure=>simp [intOf];omega
        ·obtain rfl:k=4:=by omega
         obtain ⟨q,hq⟩:∃ q,hC m 4 u (r+1) 4=q:=⟨_,rfl⟩;obtain ⟨l,hl⟩:∃ l,hL m 4 u (r+1) 4=l:=⟨_,rfl⟩
         have hln:l<16:=by
          rw [<- hl];exact hL_lt (fun j hj=>by obtain ⟨q,hq,hqn⟩:=hat.out j hj;rw [hq];simpa using hqn) (by omega)
         have Hq:=Lib.hid hq;have Hl:=Lib.hid hl;rw [hq,hl];clear hq hl
         by_cases h1:q=1
         ·have H3:=Lib.hid (show hVs m 4 4 u (hU m 4 4 u) (r+1)=(hVs m 4 4 u (hU m 4 4 u) r).set l (bits .and .i64 (nth (hVs m 4 4 u (hU m 4 4 u) r) l) (2^(r+1))) by simp only [hVs];rw [Hq.out,Hl.out,if_pos h1]);have h1I:((q:Int)==1)=true:=(by simp [h1]);clear h1;obtain ⟨hcell,hfr⟩:=ho.cell hln;have hput:=Lib.hid (ho.putN l (bits .and .i64 (nth (hVs m 4 4 u (hU m 4 4 u) r) l) (2^(r+1))));have ho3p:=Lib.hid (ho3.far (row:=some g) (grown_set (w:=wr) (G:=g) (i:=l) (v:=.int .i64 (bits .and .i64 (nth (hVs m 4 4 u (hU m 4 4 u) r) l) (2^(r+1))))) (fun b hb e=>by have:=ho3.own_lo b hb;injection e with e;omega))
          have hw2:wrap64 ((2:Int)^(r+1))=2^(r+1):=pow_wrap5 (by omega)
          go_wp2
          go_region
          go_wp2
          go_roundw
          case rel=>exact ⟨r+1,by omega,by go_num,by rw [H3.out];exact hput.out,ho3p.out,below_drewN (Below.setCell (p:=(⟨g,l,none⟩:Addr)) hb hgl _) 1⟩
          case measure=>simp [intOf];omega
         ·have H3:=Lib.hid (show hVs m 4 4 u (hU m 4 4 u) (r+1)=hVs m 4 4 u (hU m 4 4 u) r by simp only [hVs];rw [Hq.out,if_neg h1]);have h1I:((q:Int)==1)=false:=(by simp;omega);clear h1
          go_wp2
          go_roundw
          case rel=>exact ⟨r+1,by omega,by go_num,by rw [H3.out];exact ho,ho3,hb⟩
          case measure=>simp [intOf];omega
      ·obtain rfl:r=4:=by omega
       go_wp2
       go_roundw
       case rel=>exact ⟨u+1,by omega,by go_num,ho,hb⟩
       case measure=>simp [intOf];omega
    ·obtain rfl:u=2*4:=by omega
     go_wp2
     go_ret
     rw [HL.out];have hnl:=Lib.hid (hU_len m 4 4 (2*4));exact ⟨_,_,by rw [hnl.out,hlen.out];rfl,by rw [hnl.out,hlen.out];exact ho,hb⟩
def lcN (S u:Int) (k:Nat):Nat:=(lineAt S u k).toNat
def pIn (m:List Int) (S u:Int) (a b:Nat) (o:List Int):Nat->List Int
 |0=>o
 |k+1=>if k≠a/\k≠b then (pIn m S u a b o k).set (lcN S u k) (bits .andNot .i64 (nth (pIn m S u a b o k) (lcN S u k)) (nth m (lcN S u a))) else pIn m S u a b o k
def pB (m:List Int) (S:Int) (N:Nat) (u:Int) (a:Nat) (o:List Int):Nat->List Int
 |0=>o
 |b+1=>if nth m (lcN S u a)=nth m (lcN S u b)/\(maskVals (nth m (lcN S u a))).length=2 then pIn m S u a b (pB m S N u a o b) N else pB m S N u a o b
def pA (m:List Int) (S:Int) (N:Nat) (u:Int) (o:List Int):Nat->List Int
 |0=>o
 |a+1=>pB m S N u a (pA m S N u o a) a
def pU (m:List Int) (S:Int) (N:Nat):Nat->List Int
 |0=>m
 |u+1=>pA m S N u (pU m S N u) N
def npL (m:List Int) (S:Int):List Int:=if mvd m S=true then pU m S S.toNat (2*S.toNat) else []
theorem pIn_len (m:List Int) (S u:Int) (a b:Nat) (o:List Int) (k:Nat):(pIn m S u a b o k).length=o.length:=by
 induction k with
 |zero=>rfl
 |succ k ih=>
  simp only [pIn]
  split
  ·rw [List.length_set,ih]
  ·exact ih
theorem pB_len (m:List Int) (S:Int) (N:Nat) (u:Int) (a:Nat) (o:List Int) (b:Nat):(pB m S N u a o b).length=o.length:=by
 induction b with
 |zero=>rfl
 |succ b ih=>
  simp only [pB]
  split
  ·rw [pIn_len,ih]
  ·exact ih
theorem pA_len (m:List Int) (S:Int) (N:Nat) (u:Int) (o:List Int) (a:Nat):(pA m S N u o a).length=o.length:=by
 induction a with
 |zero=>rfl
 |succ a ih=>simp only [pA];rw [pB_len,ih]
theorem pU_len (m:List Int) (S:Int) (N u:Nat):(pU m S N u).length=m.length:=by
 induction u with
 |zero=>rfl
 |succ u ih=>simp only [pU];rw [pA_len,ih]
set_option maxRecDepth 8000 in
set_option maxHeartbeats 8000000 in
theorem specNarrowPairs (A:Option Addr) (c n B:Nat) (m:List Int) (s:Int) (w:World) (h:Rd w B A n m) (hB':B<=w.heap.size) (hm:n<=1099511627776) (hsb: -9223372036854775808<=s/\s<=9223372036854775807):
 Calls Tryz.prog 144 #[.slice A n c,.int .i64 s] w (RetSl w (npL m s)):=by
 have hlen:=Lib.hid h.1;have HV:=Lib.hid (specMasksValid A c n B m s w h hB' hm hsb);cases hv:mvd m s
 ·have HL:=Lib.hid (show npL m s=[] by simp [npL,hv])
  go_enter Tryz.func144,Tryz.ntmps144
  go_wp2_with (go_at_call 127;refine HV.out.mono ?_;rintro e w1 ⟨rfl,hb1⟩;rw [hv])
  go_ret
  rw [HL.out];exact ⟨_,_,rfl,Ow.made0 _ _ hb1.size,hb1.alloc hb1.size _⟩
 ·obtain ⟨⟨h2,h4⟩,hsq,hn16,hrng⟩:=mvd_at hv;rw [hlen.out] at hsq hn16 hrng
  have hs3:s=2\/s=3\/s=4:=by omega
  clear h2 h4;have HCp:=Lib.hid (fun w' (hb:Below w.heap.size w w')=>specL6Copy A n c B m w' (h.below (hb.mono hB')) (Nat.le_trans hB' hb.size) hm);have Hrng:=Lib.hid (mvd_b64' hv);clear hrng
  rcases hs3 with rfl|rfl|rfl
  ·obtain rfl:n=4:=by omega
   have HL:=Lib.hid (show npL m 2=pU m 2 2 (2*2) by simp [npL,hv]);have Hv:=Lib.hid hv;clear hv
   go_enter Tryz.func144,Tryz.ntmps144
   go_wp2_with (first
    |(go_at_call 127;refine HV.out.mono ?_;rintro e w1 ⟨rfl,hb1⟩;rw [Hv.out])
    |(go_at_call 128;refine (HCp.out _ hb1).mono ?_;rintro e w2 ⟨Ac,cc,rfl,ho2,hb2⟩))
   have hb12:=step hb1 hb2;have ho2':=ho2.mono hb1.size;obtain ⟨g,rfl,hgl,hgw⟩:=ho2'.form (by omega)
   go_loopw [6] (fun i wr=>∃ u:Nat,u<=2*2/\i=.int .i64 u/\Ow wr w.heap.size (some ⟨g,0,none⟩) 4 cc (pU m 2 2 u)/\Below w.heap.size w wr) (fun i _=>2*2-(intOf i).toNat)
   case atStart=>exact ⟨0,Nat.zero_le _,rfl,ho2',hb12⟩
   case round=>
    obtain ⟨u,hu,rfl,ho,hb⟩:=hrel
    by_cases hlt:u<2*2
    ·have hltI:(u:Int)<2*2:=(by omega);have hgr:=ho.own_hi g rfl
     have hat:Hid (∀ j,j<2->∃ q:Nat,lineAt 2 u j=(q:Int)/\q<4):=Lib.hid (fun j hj=>by
      by_cases hx:(u:Int)<2
      ·rw [lineAt_row hx];exact ⟨u*2+j,by omega,by omega⟩
      ·rw [lineAt_col hx]
       exact ⟨j*2+u-2,by omega,by omega⟩)
     have hsw:=hb.size
     have HLc:Hid (Calls Tryz.prog 172 #[.int .i64 2,.int .i64 u] wr fun e w''=>∃ g3 c3,e=.returned (.slice (some ⟨g3,0,none⟩) 2 c3)/\Ow w'' wr.heap.size (some ⟨g3,0,none⟩) 2 c3 (lineTo 2 u 2)/\Below wr.heap.size wr w''):=Lib.hid ((specLineCells 2 u wr ⟨by omega,by omega⟩).mono (by
      rintro e w'' ⟨A3,c3,rfl,ho3,hb3⟩
      have e1:lineL 2 u=lineTo 2 u 2:=by
       have:lineOk 2 u=true:=(by simp [lineOk,inr];omega)
       simp [lineL,this]
      rw [e1,lineTo_length] at ho3;rw [e1,lineTo_length];obtain ⟨g3,rfl,_,_⟩:=ho3.form (by omega)
      exact ⟨g3,c3,rfl,ho3,hb3⟩))
     go_wp2_with (go_at_call 172;refine HLc.out.mono ?_;rintro e w3 ⟨g3,c3,rfl,ho3,hb3⟩)
     have hg3:=ho3.own_lo g3 rfl;have hoA:=ho.below hb3;have hbA:=hb.trans (hb3.mono hsw)
     go_loopw [8] (fun i wr=>∃ a:Nat,a<=2/\i=.int .i64 a/\Ow wr w.heap.size (some ⟨g,0,none⟩) 4 cc (pA m 2 2 u (pU m 2 2 u) a)/\Ow wr (g+1) (some ⟨g3,0,none⟩) 2 c3 (lineTo 2 u 2)/\Below w.heap.size w wr) (fun i _=>2-(intOf i).toNat)
     case atStart=>exact ⟨0,Nat.zero_le _,rfl,hoA,ho3.mono (by omega),hbA⟩
     case round=>
      clear ho3 hoA hbA hb3 ho hb hsw HLc;obtain ⟨a,ha,rfl,ho,ho3,hb⟩:=hrel
      by_cases haT:a<2
      ·have haI:(a:Int)<2:=(by omega);obtain ⟨qa,hqa,hqan⟩:=hat.out a haT;have Hqa:=Lib.hid (show lcN 2 u a=qa by simp [lcN,hqa])
       go_wp2
       go_loopw [9] (fun i wr=>∃ b:Nat,b<=a/\i=.int .i64 b/\Ow wr w.heap.size (some ⟨g,0,none⟩) 4 cc (pB m 2 2 u a (pA m 2 2 u (pU m 2 2 u) a) b)/\Ow wr (g+1) (some ⟨g3,0,none⟩) 2 c3 (lineTo 2 u 2)/\Below w.heap.size w wr) (fun i _=>a-(intOf i).toNat)
       case atStart=>exact ⟨0,Nat.zero_le _,rfl,ho,ho3,hb⟩
       case round=>
        clear ho ho3 hb;obtain ⟨b,hb',rfl,ho,ho3,hb⟩:=hrel
        by_cases hba:b<a
        ·have hbI:(b:Int)<(a:Int):=(by omega);obtain ⟨qb,hqb,hqbn⟩:=hat.out b (by omega);have Hqb:=Lib.hid (show lcN 2 u b=qb by simp [lcN,hqb]);obtain ⟨hca,_⟩:=ho3.cell haT;obtain ⟨hcb,_⟩:=ho3.cell (show b<2 by omega);rw [show nth (lineTo 2 u 2) a=(qa:Int) by rw [<- hqa];simp [lineTo,nth,List.getD_eq_getElem?_getD,haT]] at hca;rw [show nth (lineTo 2 u 2) b=(qb:Int) by rw [<- hqb];simp [lineTo,nth,List.getD_eq_getElem?_getD,(show b<2 by omega)]] at hcb;obtain ⟨bb,off,hA,hbB,hck⟩:=(h.below (hb.mono hB')).at_ hqan;subst hA;obtain ⟨bb2,off2,hA2,_,hck2⟩:=(h.below (hb.mono hB')).at_ hqbn
         cases hA2;have hsw:=hb.size;have hgw3:=ho3.own_hi g3 rfl;have hbbw:bb<wr.heap.size:=(by omega);have hE1:Hid (pB m 2 2 u a (pA m 2 2 u (pU m 2 2 u) a) (b+1)=if nth m qa=nth m qb/\(maskVals (nth m qa)).length=2 then pIn m 2 u a b (pB m 2 2 u a (pA m 2 2 u (pU m 2 2 u) a) b) 2 else pB m 2 2 u a (pA m 2 2 u (pU m 2 2 u) a) b):=Lib.hid (by simp only [pB];rw [Hqa.out,Hqb.out])
         by_cases h1:nth m qa=nth m qb
         ·have h1I:(nth m qa != nth m qb)=false:=(by simp [h1]);obtain ⟨q,hq⟩:∃ q,q=(maskVals (nth m qa)).length:=⟨_,rfl⟩;have Hq:=Lib.hid hq;have HMv2:Hid (Calls Tryz.prog 129 #[.int .i64 (nth m qa)] wr fun e w''=>∃ A5 c5,e=.returned (.slice A5 q c5)/\Below wr.heap.size wr w''):=Lib.hid ((specMaskValues (nth m qa) wr (Hrng.out qa)).mono (by rintro e w'' ⟨A5,c5,rfl,_,hb5⟩;exact ⟨A5,c5,by rw [hq],hb5⟩));have He1:=Lib.hid h1;clear hq h1
          by_cases h2:q=2
          ·have h2I:((q:Int) != 2)=false:=(by simp [h2]);have Hs:=Lib.hid (show pB m 2 2 u a (pA m 2 2 u (pU m 2 2 u) a) (b+1)=pIn m 2 u a b (pB m 2 2 u a (pA m 2 2 u (pU m 2 2 u) a) b) 2 by rw [hE1.out,if_pos ⟨He1.out,by rw [<- Hq.out];exact h2⟩]);clear h2
           go_wp2_with (go_at_call 129;refine HMv2.out.mono ?_;rintro e w5 ⟨A5,c5,rfl,hb5⟩)
           have hoS:=ho.below hb5;have ho3S:=ho3.below hb5;have hbS:=hb.trans (hb5.mono hsw)
           go_loopw [11] (fun i wr=>∃ k:Nat,k<=2/\i=.int .i64 k/\Ow wr w.heap.size (some ⟨g,0,none⟩) 4 cc (pIn m 2 u a b (pB m 2 2 u a (pA m 2 2 u (pU m 2 2 u) a) b) k)/\Ow wr (g+1) (some ⟨g3,0,none⟩) 2 c3 (lineTo 2 u 2)/\Below w.heap.size w wr) (fun i _=>2-(intOf i).toNat)
           case atStart=>exact ⟨0,Nat.zero_le _,rfl,hoS,ho3S,hbS⟩
           case round=>
            clear ho ho3 hb hoS ho3S hbS hca hcb hck hck2 hsw hgw3 hbbw HMv2 hb5;obtain ⟨k,hk,rfl,ho,ho3,hb⟩:=hrel
            by_cases hkT:k<2
            ·have hkI:(k:Int)<2:=(by omega);obtain ⟨qk,hqk,hqkn⟩:=hat.out k hkT;have Hqk:=Lib.hid (show lcN 2 u k=qk by simp [lcN,hqk]);have hE2:Hid (pIn m 2 u a b (pB m 2 2 u a (pA m 2 2 u (pU m 2 2 u) a) b) (k+1)=if k≠a/\k≠b then (pIn m 2 u a b (pB m 2 2 u a (pA m 2 2 u (pU m 2 2 u) a) b) k).set qk (bits .andNot .i64 (nth (pIn m 2 u a b (pB m 2 2 u a (pA m 2 2 u (pU m 2 2 u) a) b) k) qk) (nth m qa)) else pIn m 2 u a b (pB m 2 2 u a (pA m 2 2 u (pU m 2 2 u) a) b) k):=Lib.hid (by simp only [pIn];rw [Hqa.out,Hqk.out])
             by_cases e1:k=a
             ·have f1:((k:Int) != (a:Int))=false:=(by simp [e1]);have Hk:=Lib.hid (hE2.out.trans (if_neg (fun e=>e.1 e1)));clear e1
              go_wp2
              go_roundw
              case rel=>exact ⟨k+1,by omega,by go_num,by rw [Hk.out];exact ho,ho3,hb⟩
              case measure=>simp [intOf];omega
             ·have f1:((k:Int) != (a:Int))=true:=(by simp;omega)
              by_cases e2:k=b
              ·have f2:((k:Int) != (b:Int))=false:=(by simp [e2]);have Hk:=Lib.hid (hE2.out.trans (if_neg (fun e=>e.2 e2)));clear e1 e2
               go_wp2
               go_roundw
               case rel=>exact ⟨k+1,by omega,by go_num,by rw [Hk.out];exact ho,ho3,hb⟩
               case measure=>simp [intOf];omega
              ·have f2:((k:Int) != (b:Int))=true:=(by simp;omega);have Hk:=Lib.hid (hE2.out.trans (if_pos ⟨e1,e2⟩));clear e1 e2;obtain ⟨hck,_⟩:=ho3.cell hkT;rw [show nth (lineTo 2 u 2) k=(qk:Int) by rw [<- hqk];simp [lineTo,nth,List.getD_eq_getElem?_getD,hkT]] at hck;obtain ⟨hcell,hfr⟩:=ho.cell hqkn;have hput:=Lib.hid (ho.putN qk (bits .andNot .i64 (nth (pIn m 2 u a b (pB m 2 2 u a (pA m 2 2 u (pU m 2 2 u) a) b) k) qk) (nth m qa)));have ho3p:=Lib.hid (ho3.far (row:=some g) (grown_set (w:=wr) (G:=g) (i:=qk) (v:=.int .i64 (bits .andNot .i64 (nth (pIn m 2 u a b (pB m 2 2 u a (pA m 2 2 u (pU m 2 2 u) a) b) k) qk) (nth m qa)))) (fun b hb e=>by have:=ho3.own_lo b hb;injection e with e;omega))
               go_wp2
               go_region
               go_wp2
               go_roundw
               case rel=>exact ⟨k+1,by omega,by go_num,by rw [Hk.out];exact hput.out,ho3p.out,below_drewN (Below.setCell (p:=(⟨g,qk,none⟩:Addr)) hb hgl _) 1⟩
               case measure=>simp [intOf];omega
            ·obtain rfl:k=2:=by omega
             go_wp2
             go_roundw
             case rel=>exact ⟨b+1,by omega,by go_num,by rw [Hs.out];exact ho,ho3,hb⟩
             case measure=>simp [intOf];omega
          ·have h2I:((q:Int) != 2)=true:=(by simp;omega);have Hs:=Lib.hid (show pB m 2 2 u a (pA m 2 2 u (pU m 2 2 u) a) (b+1)=pB m 2 2 u a (pA m 2 2 u (pU m 2 2 u) a) b by rw [hE1.out,if_neg (fun e=>h2 (by rw [Hq.out];exact e.2))]);clear h2
           go_wp2_with (go_at_call 129;refine HMv2.out.mono ?_;rintro e w5 ⟨A5,c5,rfl,hb5⟩)
           go_roundw
           case rel=>exact ⟨b+1,by omega,by go_num,by rw [Hs.out];exact ho.below hb5,ho3.below hb5,hb.trans (hb5.mono hsw)⟩
           case measure=>simp [intOf];omega
         ·have h1I:(nth m qa != nth m qb)=true:=(by simp;exact h1);have Hs:=Lib.hid (show pB m 2 2 u a (pA m 2 2 u (pU m 2 2 u) a) (b+1)=pB m 2 2 u a (pA m 2 2 u (pU m 2 2 u) a) b by rw [hE1.out,if_neg (fun e=>h1 e.1)]);clear h1
          go_wp2
          go_roundw
          case rel=>exact ⟨b+1,by omega,by go_num,by rw [Hs.out];exact ho,ho3,hb⟩
          case measure=>simp [intOf];omega
        ·obtain rfl:b=a:=by omega
         go_wp2
         go_roundw
         case rel=>exact ⟨b+1,by omega,by go_num,ho,ho3,hb⟩
         case measure=>simp [intOf];omega
      ·have haT':a=2:=(by omega);have haI:¬ (a:Int)<2:=(by omega);have Ho:Hid (Ow wr w.heap.size (some ⟨g,0,none⟩) 4 cc (pU m 2 2 (u+1))):=Lib.hid (by subst haT';exact ho);clear ho haT' haT ha
       go_wp2
       go_roundw
       case rel=>exact ⟨u+1,by omega,by go_num,Ho.out,hb⟩
       case measure=>simp [intOf];omega
    ·obtain rfl:u=2*2:=by omega
     go_wp2
     go_ret
     rw [HL.out];have hnl:=Lib.hid (pU_len m 2 2 (2*2));exact ⟨_,_,by rw [hnl.out,hlen.out];rfl,by rw [hnl.out,hlen.out];exact ho,hb⟩
  ·obtain rfl:n=9:=by omega
   have HL:=Lib.hid (show npL m 3=pU m 3 3 (2*3) by simp [npL,hv]);have Hv:=Lib.hid hv;clear hv
   go_enter Tryz.func144,Tryz.ntmps144
   go_wp2_with (first
    |(go_at_call 127;refine HV.out.mono ?_;rintro e w1 ⟨rfl,hb1⟩;rw [Hv.out])
    |(go_at_call 128;refine (HCp.out _ hb1).mono ?_;rintro e w2 ⟨Ac,cc,rfl,ho2,hb2⟩))
   have hb12:=step hb1 hb2;have ho2':=ho2.mono hb1.size;obtain ⟨g,rfl,hgl,hgw⟩:=ho2'.form (by omega)
   go_loopw [6] (fun i wr=>∃ u:Nat,u<=2*3/\i=.int .i64 u/\Ow wr w.heap.size (some ⟨g,0,none⟩) 9 cc (pU m 3 3 u)/\Below w.heap.size w wr) (fun i _=>2*3-(intOf i).toNat)
   case atStart=>exact ⟨0,Nat.zero_le _,rfl,ho2',hb12⟩
   case round=>
    obtain ⟨u,hu,rfl,ho,hb⟩:=hrel
    by_cases hlt:u<2*3
    ·have hltI:(u:Int)<2*3:=(by omega);have hgr:=ho.own_hi g rfl
     have hat:Hid (∀ j,j<3->∃ q:Nat,lineAt 3 u j=(q:Int)/\q<9):=Lib.hid (fun j hj=>by
      by_cases hx:(u:Int)<3
      ·rw [lineAt_row hx];exact ⟨u*3+j,by omega,by omega⟩
      ·rw [lineAt_col hx]
       exact ⟨j*3+u-3,by omega,by omega⟩)
     have hsw:=hb.size
     have HLc:Hid (Calls Tryz.prog 172 #[.int .i64 3,.int .i64 u] wr fun e w''=>∃ g3 c3,e=.returned (.slice (some ⟨g3,0,none⟩) 3 c3)/\Ow w'' wr.heap.size (some ⟨g3,0,none⟩) 3 c3 (lineTo 3 u 3)/\Below wr.heap.size wr w''):=Lib.hid ((specLineCells 3 u wr ⟨by omega,by omega⟩).mono (by
      rintro e w'' ⟨A3,c3,rfl,ho3,hb3⟩
      have e1:lineL 3 u=lineTo 3 u 3:=by
       have:lineOk 3 u=true:=(by simp [lineOk,inr];omega)
       simp [lineL,this]
      rw [e1,lineTo_length] at ho3;rw [e1,lineTo_length];obtain ⟨g3,rfl,_,_⟩:=ho3.form (by omega)
      exact ⟨g3,c3,rfl,ho3,hb3⟩))
     go_wp2_with (go_at_call 172;refine HLc.out.mono ?_;rintro e w3 ⟨g3,c3,rfl,ho3,hb3⟩)
     have hg3:=ho3.own_lo g3 rfl;have hoA:=ho.below hb3;have hbA:=hb.trans (hb3.mono hsw)
     go_loopw [8] (fun i wr=>∃ a:Nat,a<=3/\i=.int .i64 a/\Ow wr w.heap.size (some ⟨g,0,none⟩) 9 cc (pA m 3 3 u (pU m 3 3 u) a)/\Ow wr (g+1) (some ⟨g3,0,none⟩) 3 c3 (lineTo 3 u 3)/\Below w.heap.size w wr) (fun i _=>3-(intOf i).toNat)
     case atStart=>exact ⟨0,Nat.zero_le _,rfl,hoA,ho3.mono (by omega),hbA⟩
     case round=>
      clear ho3 hoA hbA hb3 ho hb hsw HLc;obtain ⟨a,ha,rfl,ho,ho3,hb⟩:=hrel
      by_cases haT:a<3
      ·have haI:(a:Int)<3:=(by omega);obtain ⟨qa,hqa,hqan⟩:=hat.out a haT;have Hqa:=Lib.hid (show lcN 3 u a=qa by simp [lcN,hqa])
       go_wp2
       go_loopw [9] (fun i wr=>∃ b:Nat,b<=a/\i=.int .i64 b/\Ow wr w.heap.size (some ⟨g,0,none⟩) 9 cc (pB m 3 3 u a (pA m 3 3 u (pU m 3 3 u) a) b)/\Ow wr (g+1) (some ⟨g3,0,none⟩) 3 c3 (lineTo 3 u 3)/\Below w.heap.size w wr) (fun i _=>a-(intOf i).toNat)
       case atStart=>exact ⟨0,Nat.zero_le _,rfl,ho,ho3,hb⟩
       case round=>
        clear ho ho3 hb;obtain ⟨b,hb',rfl,ho,ho3,hb⟩:=hrel
        by_cases hba:b<a
        ·have hbI:(b:Int)<(a:Int):=(by omega);obtain ⟨qb,hqb,hqbn⟩:=hat.out b (by omega);have Hqb:=Lib.hid (show lcN 3 u b=qb by simp [lcN,hqb]);obtain ⟨hca,_⟩:=ho3.cell haT;obtain ⟨hcb,_⟩:=ho3.cell (show b<3 by omega);rw [show nth (lineTo 3 u 3) a=(qa:Int) by rw [<- hqa];simp [lineTo,nth,List.getD_eq_getElem?_getD,haT]] at hca;rw [show nth (lineTo 3 u 3) b=(qb:Int) by rw [<- hqb];simp [lineTo,nth,List.getD_eq_getElem?_getD,(show b<3 by omega)]] at hcb;obtain ⟨bb,off,hA,hbB,hck⟩:=(h.below (hb.mono hB')).at_ hqan;subst hA;obtain ⟨bb2,off2,hA2,_,hck2⟩:=(h.below (hb.mono hB')).at_ hqbn
         cases hA2;have hsw:=hb.size;have hgw3:=ho3.own_hi g3 rfl;have hbbw:bb<wr.heap.size:=(by omega);have hE1:Hid (pB m 3 3 u a (pA m 3 3 u (pU m 3 3 u) a) (b+1)=if nth m qa=nth m qb/\(maskVals (nth m qa)).length=2 then pIn m 3 u a b (pB m 3 3 u a (pA m 3 3 u (pU m 3 3 u) a) b) 3 else pB m 3 3 u a (pA m 3 3 u (pU m 3 3 u) a) b):=Lib.hid (by simp only [pB];rw [Hqa.out,Hqb.out])
         by_cases h1:nth m qa=nth m qb
         ·have h1I:(nth m qa != nth m qb)=false:=(by simp [h1]);obtain ⟨q,hq⟩:∃ q,q=(maskVals (nth m qa)).length:=⟨_,rfl⟩;have Hq:=Lib.hid hq;have HMv2:Hid (Calls Tryz.prog 129 #[.int .i64 (nth m qa)] wr fun e w''=>∃ A5 c5,e=.returned (.slice A5 q c5)/\Below wr.heap.size wr w''):=Lib.hid ((specMaskValues (nth m qa) wr (Hrng.out qa)).mono (by rintro e w'' ⟨A5,c5,rfl,_,hb5⟩;exact ⟨A5,c5,by rw [hq],hb5⟩));have He1:=Lib.hid h1;clear hq h1
          by_cases h2:q=2
          ·have h2I:((q:Int) != 2)=false:=(by simp [h2]);have Hs:=Lib.hid (show pB m 3 3 u a (pA m 3 3 u (pU m 3 3 u) a) (b+1)=pIn m 3 u a b (pB m 3 3 u a (pA m 3 3 u (pU m 3 3 u) a) b) 3 by rw [hE1.out,if_pos ⟨He1.out,by rw [<- Hq.out];exact h2⟩]);clear h2
           go_wp2_with (go_at_call 129;refine HMv2.out.mono ?_;rintro e w5 ⟨A5,c5,rfl,hb5⟩)
           have hoS:=ho.below hb5;have ho3S:=ho3.below hb5;have hbS:=hb.trans (hb5.mono hsw)
           go_loopw [11] (fun i wr=>∃ k:Nat,k<=3/\i=.int .i64 k/\Ow wr w.heap.size (some ⟨g,0,none⟩) 9 cc (pIn m 3 u a b (pB m 3 3 u a (pA m 3 3 u (pU m 3 3 u) a) b) k)/\Ow wr (g+1) (some ⟨g3,0,none⟩) 3 c3 (lineTo 3 u 3)/\Below w.heap.size w wr) (fun i _=>3-(intOf i).toNat)
           case atStart=>exact ⟨0,Nat.zero_le _,rfl,hoS,ho3S,hbS⟩
           case round=>
            clear ho ho3 hb hoS ho3S hbS hca hcb hck hck2 hsw hgw3 hbbw HMv2 hb5;obtain ⟨k,hk,rfl,ho,ho3,hb⟩:=hrel
            by_cases hkT:k<3
            ·have hkI:(k:Int)<3:=(by omega);obtain ⟨qk,hqk,hqkn⟩:=hat.out k hkT;have Hqk:=Lib.hid (show lcN 3 u k=qk by simp [lcN,hqk]);have hE2:Hid (pIn m 3 u a b (pB m 3 3 u a (pA m 3 3 u (pU m 3 3 u) a) b) (k+1)=if k≠a/\k≠b then (pIn m 3 u a b (pB m 3 3 u a (pA m 3 3 u (pU m 3 3 u) a) b) k).set qk (bits .andNot .i64 (nth (pIn m 3 u a b (pB m 3 3 u a (pA m 3 3 u (pU m 3 3 u) a) b) k) qk) (nth m qa)) else pIn m 3 u a b (pB m 3 3 u a (pA m 3 3 u (pU m 3 3 u) a) b) k):=Lib.hid (by simp only [pIn];rw [Hqa.out,Hqk.out])
             by_cases e1:k=a
             ·have f1:((k:Int) != (a:Int))=false:=(by simp [e1]);have Hk:=Lib.hid (hE2.out.trans (if_neg (fun e=>e.1 e1)));clear e1
              go_wp2
              go_roundw
              case rel=>exact ⟨k+1,by omega,by go_num,by rw [Hk.out];exact ho,ho3,hb⟩
              case measure=>simp [intOf];omega
             ·have f1:((k:Int) != (a:Int))=true:=(by simp;omega)
              by_cases e2:k=b
              ·have f2:((k:Int) != (b:Int))=false:=(by simp [e2]);have Hk:=Lib.hid (hE2.out.trans (if_neg (fun e=>e.2 e2)));clear e1 e2
               go_wp2
               go_roundw
               case rel=>exact ⟨k+1,by omega,by go_num,by rw [Hk.out];exact ho,ho3,hb⟩
               case measure=>simp [intOf];omega
              ·have f2:((k:Int) != (b:Int))=true:=(by simp;omega);have Hk:=Lib.hid (hE2.out.trans (if_pos ⟨e1,e2⟩));clear e1 e2;obtain ⟨hck,_⟩:=ho3.cell hkT;rw [show nth (lineTo 3 u 3) k=(qk:Int) by rw [<- hqk];simp [lineTo,nth,List.getD_eq_getElem?_getD,hkT]] at hck;obtain ⟨hcell,hfr⟩:=ho.cell hqkn;have hput:=Lib.hid (ho.putN qk (bits .andNot .i64 (nth (pIn m 3 u a b (pB m 3 3 u a (pA m 3 3 u (pU m 3 3 u) a) b) k) qk) (nth m qa)));have ho3p:=Lib.hid (ho3.far (row:=some g) (grown_set (w:=wr) (G:=g) (i:=qk) (v:=.int .i64 (bits .andNot .i64 (nth (pIn m 3 u a b (pB m 3 3 u a (pA m 3 3 u (pU m 3 3 u) a) b) k) qk) (nth m qa)))) (fun b hb e=>by have:=ho3.own_lo b hb;injection e with e;omega))
               go_wp2
               go_region
               go_wp2
               go_roundw
               case rel=>exact ⟨k+1,by omega,by go_num,by rw [Hk.out];exact hput.out,ho3p.out,below_drewN (Below.setCell (p:=(⟨g,qk,none⟩:Addr)) hb hgl _) 1⟩
               case measure=>simp [intOf];omega
            ·obtain rfl:k=3:=by omega
             go_wp2
             go_roundw
             case rel=>exact ⟨b+1,by omega,by go_num,by rw [Hs.out];exact ho,ho3,hb⟩
             case measure=>simp [intOf];omega
          ·have h2I:((q:Int) != 2)=true:=(by simp;omega);have Hs:=Lib.hid (show pB m 3 3 u a (pA m 3 3 u (pU m 3 3 u) a) (b+1)=pB m 3 3 u a (pA m 3 3 u (pU m 3 3 u) a) b by rw [hE1.out,if_neg (fun e=>h2 (by rw [Hq.out];exact e.2))]);clear h2
           go_wp2_with (go_at_call 129;refine HMv2.out.mono ?_;rintro e w5 ⟨A5,c5,rfl,hb5⟩)
           go_roundw
           case rel=>exact ⟨b+1,by omega,by go_num,by rw [Hs.out];exact ho.below hb5,ho3.below hb5,hb.trans (hb5.mono hsw)⟩
           case measure=>simp [intOf];omega
         ·have h1I:(nth m qa != nth m qb)=true:=(by simp;exact h1);have Hs:=Lib.hid (show pB m 3 3 u a (pA m 3 3 u (pU m 3 3 u) a) (b+1)=pB m 3 3 u a (pA m 3 3 u (pU m 3 3 u) a) b by rw [hE1.out,if_neg (fun e=>h1 e.1)]);clear h1
          go_wp2
          go_roundw
          case rel=>exact ⟨b+1,by omega,by go_num,by rw [Hs.out];exact ho,ho3,hb⟩
          case measure=>simp [intOf];omega
        ·obtain rfl:b=a:=by omega
         go_wp2
         go_roundw
         case rel=>exact ⟨b+1,by omega,by go_num,ho,ho3,hb⟩
         case measure=>simp [intOf];omega
      ·have haT':a=3:=(by omega);have haI:¬ (a:Int)<3:=(by omega);have Ho:Hid (Ow wr w.heap.size (some ⟨g,0,none⟩) 9 cc (pU m 3 3 (u+1))):=Lib.hid (by subst haT';exact ho);clear ho haT' haT ha
       go_wp2
       go_roundw
       case rel=>exact ⟨u+1,by omega,by go_num,Ho.out,hb⟩
       case measure=>simp [intOf];omega
    ·obtain rfl:u=2*3:=by omega
     go_wp2
     go_ret
     rw [HL.out];have hnl:=Lib.hid (pU_len m 3 3 (2*3));exact ⟨_,_,by rw [hnl.out,hlen.out];rfl,by rw [hnl.out,hlen.out];exact ho,hb⟩
  ·obtain rfl:n=16:=by omega
   have HL:=Lib.hid (show npL m 4=pU m 4 4 (2*4) by simp [npL,hv]);have Hv:=Lib.hid hv;clear hv
   go_enter Tryz.func144,Tryz.ntmps144
   go_wp2_with (first
    |(go_at_call 127;refine HV.out.mono ?_;rintro e w1 ⟨rfl,hb1⟩;rw [Hv.out])
    |(go_at_call 128;refine (HCp.out _ hb1).mono ?_;rintro e w2 ⟨Ac,cc,rfl,ho2,hb2⟩))
   have hb12:=step hb1 hb2;have ho2':=ho2.mono hb1.size;obtain ⟨g,rfl,hgl,hgw⟩:=ho2'.form (by omega)
   go_loopw [6] (fun i wr=>∃ u:Nat,u<=2*4/\i=.int .i64 u/\Ow wr w.heap.size (some ⟨g,0,none⟩) 16 cc (pU m 4 4 u)/\Below w.heap.size w wr) (fun i _=>2*4-(intOf i).toNat)
   case atStart=>exact ⟨0,Nat.zero_le _,rfl,ho2',hb12⟩
   case round=>
    obtain ⟨u,hu,rfl,ho,hb⟩:=hrel
    by_cases hlt:u<2*4
    ·have hltI:(u:Int)<2*4:=(by omega);have hgr:=ho.own_hi g rfl
     have hat:Hid (∀ j,j<4->∃ q:Nat,lineAt 4 u j=(q:Int)/\q<16):=Lib.hid (fun j hj=>by
      by_cases hx:(u:Int)<4
      ·rw [lineAt_row hx];exact ⟨u*4+j,by omega,by omega⟩
      ·rw [lineAt_col hx]
       exact ⟨j*4+u-4,by omega,by omega⟩)
     have hsw:=hb.size
     have HLc:Hid (Calls Tryz.prog 172 #[.int .i64 4,.int .i64 u] wr fun e w''=>∃ g3 c3,e=.returned (.slice (some ⟨g3,0,none⟩) 4 c3)/\Ow w'' wr.heap.size (some ⟨g3,0,none⟩) 4 c3 (lineTo 4 u 4)/\Below wr.heap.size wr w''):=Lib.hid ((specLineCells 4 u wr ⟨by omega,by omega⟩).mono (by
      rintro e w'' ⟨A3,c3,rfl,ho3,hb3⟩
      have e1:lineL 4 u=lineTo 4 u 4:=by
       have:lineOk 4 u=true:=(by simp [lineOk,inr];omega)
       simp [lineL,this]
      rw [e1,lineTo_length] at ho3;rw [e1,lineTo_length];obtain ⟨g3,rfl,_,_⟩:=ho3.form (by omega)
      exact ⟨g3,c3,rfl,ho3,hb3⟩))
     go_wp2_with (go_at_call 172;refine HLc.out.mono ?_;rintro e w3 ⟨g3,c3,rfl,ho3,hb3⟩)
     have hg3:=ho3.own_lo g3 rfl;have hoA:=ho.below hb3;have hbA:=hb.trans (hb3.mono hsw)
     go_loopw [8] (fun i wr=>∃ a:Nat,a<=4/\i=.int .i64 a/\Ow wr w.heap.size (some ⟨g,0,none⟩) 16 cc (pA m 4 4 u (pU m 4 4 u) a)/\Ow wr (g+1) (some ⟨g3,0,none⟩) 4 c3 (lineTo 4 u 4)/\Below w.heap.size w wr) (fun i _=>4-(intOf i).toNat)
     case atStart=>exact ⟨0,Nat.zero_le _,rfl,hoA,ho3.mono (by omega),hbA⟩
     case round=>
      clear ho3 hoA hbA hb3 ho hb hsw HLc;obtain ⟨a,ha,rfl,ho,ho3,hb⟩:=hrel
      by_cases haT:a<4
      ·have haI:(a:Int)<4:=(by omega);obtain ⟨qa,hqa,hqan⟩:=hat.out a haT;have Hqa:=Lib.hid (show lcN 4 u a=qa by simp [lcN,hqa])
       go_wp2
       go_loopw [9] (fun i wr=>∃ b:Nat,b<=a/\i=.int .i64 b/\Ow wr w.heap.size (some ⟨g,0,none⟩) 16 cc (pB m 4 4 u a (pA m 4 4 u (pU m 4 4 u) a) b)/\Ow wr (g+1) (some ⟨g3,0,none⟩) 4 c3 (lineTo 4 u 4)/\Below w.heap.size w wr) (fun i _=>a-(intOf i).toNat)
       case atStart=>exact ⟨0,Nat.zero_le _,rfl,ho,ho3,hb⟩
       case round=>
        clear ho ho3 hb;obtain ⟨b,hb',rfl,ho,ho3,hb⟩:=hrel
        by_cases hba:b<a
        ·have hbI:(b:Int)<(a:Int):=(by omega);obtain ⟨qb,hqb,hqbn⟩:=hat.out b (by omega);have Hqb:=Lib.hid (show lcN 4 u b=qb by simp [lcN,hqb]);obtain ⟨hca,_⟩:=ho3.cell haT;obtain ⟨hcb,_⟩:=ho3.cell (show b<4 by omega);rw [show nth (lineTo 4 u 4) a=(qa:Int) by rw [<- hqa];simp [lineTo,nth,List.getD_eq_getElem?_getD,haT]] at hca;rw [show nth (lineTo 4 u 4) b=(qb:Int) by rw [<- hqb];simp [lineTo,nth,List.getD_eq_getElem?_getD,(show b<4 by omega)]] at hcb;obtain ⟨bb,off,hA,hbB,hck⟩:=(h.below (hb.mono hB')).at_ hqan;subst hA;obtain ⟨bb2,off2,hA2,_,hck2⟩:=(h.below (hb.mono hB')).at_ hqbn
         cases hA2;have hsw:=hb.size;have hgw3:=ho3.own_hi g3 rfl;have hbbw:bb<wr.heap.size:=(by omega);have hE1:Hid (pB m 4 4 u a (pA m 4 4 u (pU m 4 4 u) a) (b+1)=if nth m qa=nth m qb/\(maskVals (nth m qa)).length=2 then pIn m 4 u a b (pB m 4 4 u a (pA m 4 4 u (pU m 4 4 u) a) b) 4 else pB m 4 4 u a (pA m 4 4 u (pU m 4 4 u) a) b):=Lib.hid (by simp only [pB];rw [Hqa.out,Hqb.out])
         by_cases h1:nth m qa=nth m qb
         ·have h1I:(nth m qa != nth m qb)=false:=(by simp [h1]);obtain ⟨q,hq⟩:∃ q,q=(maskVals (nth m qa)).length:=⟨_,rfl⟩;have Hq:=Lib.hid hq;have HMv2:Hid (Calls Tryz.prog 129 #[.int .i64 (nth m qa)] wr fun e w''=>∃ A5 c5,e=.returned (.slice A5 q c5)/\Below wr.heap.size wr w''):=Lib.hid ((specMaskValues (nth m qa) wr (Hrng.out qa)).mono (by rintro e w'' ⟨A5,c5,rfl,_,hb5⟩;exact ⟨A5,c5,by rw [hq],hb5⟩));have He1:=Lib.hid h1;clear hq h1
          by_cases h2:q=2
          ·have h2I:((q:Int) != 2)=false:=(by simp [h2]);have Hs:=Lib.hid (show pB m 4 4 u a (pA m 4 4 u (pU m 4 4 u) a) (b+1)=pIn m 4 u a b (pB m 4 4 u a (pA m 4 4 u (pU m 4 4 u) a) b) 4 by rw [hE1.out,if_pos ⟨He1.out,by rw [<- Hq.out];exact h2⟩]);clear h2
           go_wp2_with (go_at_call 129;refine HMv2.out.mono ?_;rintro e w5 ⟨A5,c5,rfl,hb5⟩)
           have hoS:=ho.below hb5;have ho3S:=ho3.below hb5;have hbS:=hb.trans (hb5.mono hsw)
           go_loopw [11] (fun i wr=>∃ k:Nat,k<=4/\i=.int .i64 k/\Ow wr w.heap.size (some ⟨g,0,none⟩) 16 cc (pIn m 4 u a b (pB m 4 4 u a (pA m 4 4 u (pU m 4 4 u) a) b) k)/\Ow wr (g+1) (some ⟨g3,0,none⟩) 4 c3 (lineTo 4 u 4)/\Below w.heap.size w wr) (fun i _=>4-(intOf i).toNat)
           case atStart=>exact ⟨0,Nat.zero_le _,rfl,hoS,ho3S,hbS⟩
           case round=>
            clear ho ho3 hb hoS ho3S hbS hca hcb hck hck2 hsw hgw3 hbbw HMv2 hb5;obtain ⟨k,hk,rfl,ho,ho3,hb⟩:=hrel
            by_cases hkT:k<4
            ·have hkI:(k:Int)<4:=(by omega);obtain ⟨qk,hqk,hqkn⟩:=hat.out k hkT;have Hqk:=Lib.hid (show lcN 4 u k=qk by simp [lcN,hqk]);have hE2:Hid (pIn m 4 u a b (pB m 4 4 u a (pA m 4 4 u (pU m 4 4 u) a) b) (k+1)=if k≠a/\k≠b then (pIn m 4 u a b (pB m 4 4 u a (pA m 4 4 u (pU m 4 4 u) a) b) k).set qk (bits .andNot .i64 (nth (pIn m 4 u a b (pB m 4 4 u a (pA m 4 4 u (pU m 4 4 u) a) b) k) qk) (nth m qa)) else pIn m 4 u a b (pB m 4 4 u a (pA m 4 4 u (pU m 4 4 u) a) b) k):=Lib.hid (by simp only [pIn];rw [Hqa.out,Hqk.out])
             by_cases e1:k=a
             ·have f1:((k:Int) != (a:Int))=false:=(by simp [e1]);have Hk:=Lib.hid (hE2.out.trans (if_neg (fun e=>e.1 e1)));clear e1
              go_wp2
              go_roundw
              case rel=>exact ⟨k+1,by omega,by go_num,by rw [Hk.out];exact ho,ho3,hb⟩
              case measure=>simp [intOf];omega
             ·have f1:((k:Int) != (a:Int))=true:=(by simp;omega)
              by_cases e2:k=b
              ·have f2:((k:Int) != (b:Int))=false:=(by simp [e2]);have Hk:=Lib.hid (hE2.out.trans (if_neg (fun e=>e.2 e2)));clear e1 e2
               go_wp2
               go_roundw
               case rel=>exact ⟨k+1,by omega,by go_num,by rw [Hk.out];exact ho,ho3,hb⟩
               case measure=>simp [intOf];omega
              ·have f2:((k:Int) != (b:Int))=true:=(by simp;omega);have Hk:=Lib.hid (hE2.out.trans (if_pos ⟨e1,e2⟩));clear e1 e2;obtain ⟨hck,_⟩:=ho3.cell hkT;rw [show nth (lineTo 4 u 4) k=(qk:Int) by rw [<- hqk];simp [lineTo,nth,List.getD_eq_getElem?_getD,hkT]] at hck;obtain ⟨hcell,hfr⟩:=ho.cell hqkn;have hput:=Lib.hid (ho.putN qk (bits .andNot .i64 (nth (pIn m 4 u a b (pB m 4 4 u a (pA m 4 4 u (pU m 4 4 u) a) b) k) qk) (nth m qa)));have ho3p:=Lib.hid (ho3.far (row:=some g) (grown_set (w:=wr) (G:=g) (i:=qk) (v:=.int .i64 (bits .andNot .i64 (nth (pIn m 4 u a b (pB m 4 4 u a (pA m 4 4 u (pU m 4 4 u) a) b) k) qk) (nth m qa)))) (fun b hb e=>by have:=ho3.own_lo b hb;injection e with e;omega))
               go_wp2
               go_region
               go_wp2
               go_roundw
               case rel=>exact ⟨k+1,by omega,by go_num,by rw [Hk.out];exact hput.out,ho3p.out,below_drewN (Below.setCell (p:=(⟨g,qk,none⟩:Addr)) hb hgl _) 1⟩
               case measure=>simp [intOf];omega
            ·obtain rfl:k=4:=by omega
             go_wp2
             go_roundw
             case rel=>exact ⟨b+1,by omega,by go_num,by rw [Hs.out];exact ho,ho3,hb⟩
             case measure=>simp [intOf];omega
          ·have h2I:((q:Int) != 2)=true:=(by simp;omega);have Hs:=Lib.hid (show pB m 4 4 u a (pA m 4 4 u (pU m 4 4 u) a) (b+1)=pB m 4 4 u a (pA m 4 4 u (pU m 4 4 u) a) b by rw [hE1.out,if_neg (fun e=>h2 (by rw [Hq.out];exact e.2))]);clear h2
           go_wp2_with (go_at_call 129;refine HMv2.out.mono ?_;rintro e w5 ⟨A5,c5,rfl,hb5⟩)
           go_roundw
           case rel=>exact ⟨b+1,by omega,by go_num,by rw [Hs.out];exact ho.below hb5,ho3.below hb5,hb.trans (hb5.mono hsw)⟩
           case measure=>simp [intOf];omega
         ·have h1I:(nth m qa != nth m qb)=true:=(by simp;exact h1);have Hs:=Lib.hid (show pB m 4 4 u a (pA m 4 4 u (pU m 4 4 u) a) (b+1)=pB m 4 4 u a (pA m 4 4 u (pU m 4 4 u) a) b by rw [hE1.out,if_neg (fun e=>h1 e.1)]);clear h1
          go_wp2
          go_roundw
          case rel=>exact ⟨b+1,by omega,by go_num,by rw [Hs.out];exact ho,ho3,hb⟩
          case measure=>simp [intOf];omega
        ·obtain rfl:b=a:=by omega
         go_wp2
         go_roundw
         case rel=>exact ⟨b+1,by omega,by go_num,ho,ho3,hb⟩
         case measure=>simp [intOf];omega
      ·have haT':a=4:=(by omega);have haI:¬ (a:Int)<4:=(by omega);have Ho:Hid (Ow wr w.heap.size (some ⟨g,0,none⟩) 16 cc (pU m 4 4 (u+1))):=Lib.hid (by subst haT';exact ho);clear ho haT' haT ha
       go_wp2
       go_roundw
       case rel=>exact ⟨u+1,by omega,by go_num,Ho.out,hb⟩
       case measure=>simp [intOf];omega
    ·obtain rfl:u=2*4:=by omega
     go_wp2
     go_ret
     rw [HL.out];have hnl:=Lib.hid (pU_len m 4 4 (2*4));exact ⟨_,_,by rw [hnl.out,hlen.out];rfl,by rw [hnl.out,hlen.out];exact ho,hb⟩
def allW (ms:List Int):Nat->List Int->List (List Int)
 |0,vs=>[vs]
 |d+1,vs=>(bitsTo (nth ms vs.length).toNat 4).flatMap fun x=>allW ms d (vs++[x])
theorem bits_flat {β:Type} (M u:Nat) (f:Int->List β):(bitsTo M (u+1)).flatMap f=(bitsTo M u).flatMap f++(if M.testBit (u+1)=true then f ((u:Int)+1) else []):=by
 simp only [bitsTo,List.flatMap_append]
 split<;>simp
theorem bits_mem {M u:Nat} {y:Int} (h:y∈bitsTo M u):1<=y/\y<=(u:Int):=by
 induction u with
 |zero=>simp [bitsTo] at h
 |succ u ih=>
  simp only [bitsTo,List.mem_append] at h
  rcases h with h|h
  ·have:=ih h;omega
  ·split at h
   ·simp at h;omega
   ·simp at h
theorem allW_len {ms:List Int}:∀ {d:Nat} {vs ys:List Int},ys∈allW ms d vs->ys.length=vs.length+d:=by
 intro d
 induction d with
 |zero=>intro vs ys h;simp [allW] at h;subst h;rfl
 |succ d ih=>
  intro vs ys h;simp only [allW,List.mem_flatMap] at h;obtain ⟨x,_,h⟩:=h;have:=ih h;rw [List.length_append,List.length_singleton] at this;omega
theorem allW_small {ms:List Int}:∀ {d:Nat} {vs ys:List Int},(∀ i,i<vs.length->1<=nth vs i/\nth vs i<=4)->ys∈allW ms d vs->∀ i,i<vs.length+d->1<=nth ys i/\nth ys i<=4:=by
 intro d
 induction d with
 |zero=>intro vs ys hv h;simp [allW] at h;subst h;simpa using hv
 |succ d ih=>
  intro vs ys hv h;simp only [allW,List.mem_flatMap] at h;obtain ⟨x,hx,h⟩:=h;have hx':=bits_mem hx;intro i hi;refine ih (fun j hj=>?_) h i (by rw [List.length_append,List.length_singleton];omega);rw [List.length_append,List.length_singleton] at hj;rw [nth_push rfl]
  split
  ·exact hv j (by assumption)
  ·rw [if_pos (by omega)];omega
theorem foldN_foldl (step:Int->List Nat->List Nat) (L:List Int) (F:List Nat):∀ t,t<=L.length->foldN step L t F=(L.take t).foldl (fun G x=>step x G) F:=by
 intro t
 induction t with
 |zero=>intro _;simp [foldN]
 |succ t ih=>
  intro ht;simp only [foldN];rw [ih (by omega),List.take_add_one,List.foldl_append,List.getElem?_eq_getElem (by omega)]
  simp [nth,List.getD_eq_getElem?_getD,List.getElem?_eq_getElem (show t<L.length by omega)]
def orWay (k v:Int) (G:List Nat) (ys:List Int):List Nat:=if holdsB k v ys=true then orTo ys G G.length else G
def orAll (G:List Nat) (ys:List Int):List Nat:=orTo ys G G.length
theorem waysF_fold (k v:Int) (xs ms pm:List Int):∀ d vs F,(∀ i,vs.length<=i->i<vs.length+d->maskVals (nth ms (nth xs i).toNat)=bitsTo (nth pm i).toNat 4)->waysF k v xs ms d vs F=(allW pm d vs).foldl (orWay k v) F:=by
 intro d
 induction d with
 |zero=>intro vs F _;rfl
 |succ d ih=>
  intro vs F h;simp only [waysF,allW];rw [h vs.length (Nat.le_refl _) (by omega),foldN_foldl _ _ _ _ (Nat.le_refl _),List.take_length,List.foldl_flatMap]
  congr 1
  funext G x
  refine ih _ _ fun i h1 h2=>h i ?_ ?_
  ·rw [List.length_append,List.length_singleton] at h1;omega
  ·rw [List.length_append,List.length_singleton] at h2;omega
theorem fold_filter (k v:Int) (L:List (List Int)) (F:List Nat):L.foldl (orWay k v) F=(L.filter (holdsB k v)).foldl orAll F:=by
 rw [List.foldl_filter];rfl
theorem orAll_length (G:List Nat) (ys:List Int):(orAll G ys).length=G.length:=orTo_length _ _ _
theorem foldAll_pos:∀ (L:List (List Int)) (G:List Nat),0<G.length->G.getD 0 0≠0->(L.foldl orAll G).getD 0 0≠0:=by
 intro L
 induction L with
 |nil=>intro G _ h;exact h
 |cons y L ih=>
  intro G hl h;refine ih _ (by rw [orAll_length];exact hl) ?_;unfold orAll;rw [orTo_get hl,if_pos hl];intro e;exact h (Nat.or_eq_zero_iff.1 e).1
theorem foldAll_zero (L:List (List Int)) (n:Nat) (hn:0<n):(nth (nats (L.foldl orAll (zerosN n))) 0 != 0)= !L.isEmpty:=by
 rw [nats_nth]
 cases L with
 |nil=>simp [zerosN,List.getD_eq_getElem?_getD,hn]
 |cons y L=>
  have hz:0<(zerosN n).length:=by simp [zerosN];exact hn
  have h1:(orAll (zerosN n) y).getD 0 0≠0:=by
   unfold orAll;rw [orTo_get hz,if_pos hz];intro e;have:=(Nat.or_eq_zero_iff.1 e).2;exact absurd this (by have:=Nat.two_pow_pos (nth y 0).toNat;omega)
  have:=foldAll_pos L _ (by rw [orAll_length];exact hz) h1;simp only [List.foldl_cons,List.isEmpty_cons,Bool.not_false,bne_iff_ne,ne_eq];omega
theorem maskVals_ok {m:Int} (h0:0<=m) (h1:m<=30) (h2:m.tmod 2=0):maskVals m=bitsTo m.toNat 4:=by
 unfold maskVals;rw [if_pos (by simp only [mvOk,inr,Bool.and_eq_true,decide_eq_true_eq,beq_iff_eq];exact ⟨⟨h0,h1⟩,h2⟩)]
def waysN (k v:Int) (pm:List Int) (n:Nat):List (List Int):=(allW pm n []).filter (holdsB k v)
theorem rm_ways {k v s:Int} {xs ms:List Int} {n:Nat} (hl:xs.length=n) (hv:rv k xs v s=true) (hm:mvd ms s=true):
 rmL k xs v ms s=nats ((waysN k v (pks ms xs n) n).foldl orAll (zerosN n)):=by
 subst hl;obtain ⟨hs,_,_,hx⟩:=rv_facts rfl hv;obtain ⟨_,hml,_,hmk⟩:=mvd_at hm;unfold rmL rmN waysN;rw [hv,hm,Bool.true_and,if_pos rfl,waysF_fold k v xs ms (pks ms xs xs.length) _ _ _ (fun i h1 h2=>?_),fold_filter]
 have hi:i<xs.length:=by simpa using h2
 obtain ⟨a,b⟩:=hx i hi;obtain ⟨m0,m1,m2⟩:=hmk (nth xs i).toNat (by omega);rw [pks_nth hi];exact maskVals_ok m0 m1 m2
theorem em_pks {g xs:List Int} {s:Int} {n:Nat} (hx:∀ i,i<n->(nth xs i).toNat<g.length):pks (emL g s) xs n=emL (pks g xs n) s:=by
 apply ext_nth (by rw [pks_length];unfold emL;rw [mapTo_length,pks_length])
 intro i hi;rw [pks_length] at hi;rw [pks_nth hi];unfold emL;rw [mapTo_nth (hx i hi),mapTo_nth (by rw [pks_length];exact hi)];unfold emG emN;rw [pks_nth hi]
theorem rp_ways {k v:Int} {s:Nat} {xs g:List Int} {n:Nat} (hl:xs.length=n) (hv:rv k xs v s=true) (hg:gv g s=true) (hs:s∈[2,3,4]):
 rpB k xs v g s= !((allW (emL (pks g xs n) s) n []).filter (holdsB k v)).isEmpty:=by
 obtain ⟨_,⟨hn1,hn4⟩,_,_⟩:=rv_facts hl hv;obtain ⟨_,hin⟩:=pks_small hl hv hg;unfold rpB;rw [hv,hg,Bool.true_and,Bool.true_and,rm_ways hl hv (emL_valid hs hg),foldAll_zero _ _ (by omega),em_pks (fun i hi=>by have:=hin i hi;omega)];rfl
theorem bits_iff {M u:Nat} {y:Int}:y∈bitsTo M u↔∃ t:Nat,y=(t:Int)/\1<=t/\t<=u/\M.testBit t=true:=by
 induction u with
 |zero=>simp [bitsTo];intro t _ h1 h2;omega
 |succ u ih=>
  simp only [bitsTo,List.mem_append,ih]
  constructor
  ·rintro (⟨t,h1,h2,h3,h4⟩|h)
   ·exact ⟨t,h1,h2,by omega,h4⟩
   ·split at h
    ·next hb=>exact ⟨u+1,by simpa using h,by omega,Nat.le_refl _,hb⟩
    ·cases h
  ·rintro ⟨t,h1,h2,h3,h4⟩
   by_cases e:t=u+1
   ·subst e;right;rw [if_pos h4];simpa using h1
   ·left;exact ⟨t,h1,h2,by omega,h4⟩
theorem allW_mono {ms ms':List Int}:∀ (d:Nat) (vs ys:List Int),(∀ i,vs.length<=i->i<vs.length+d->∀ t,1<=t->t<=4->(nth ms i).toNat.testBit t=true->(nth ms' i).toNat.testBit t=true)->ys∈allW ms d vs->ys∈allW ms' d vs:=by
 intro d
 induction d with
 |zero=>intro vs ys _ h;exact h
 |succ d ih=>
  intro vs ys hb h;simp only [allW,List.mem_flatMap] at h ⊢;obtain ⟨x,hx,h⟩:=h;obtain ⟨t,rfl,t1,t2,t3⟩:=bits_iff.1 hx;refine ⟨(t:Int),bits_iff.2 ⟨t,rfl,t1,t2,hb _ (Nat.le_refl _) (by omega) t t1 t2 t3⟩,ih _ _ (fun i h1 h2=>?_) h⟩;rw [List.length_append,List.length_singleton] at h1 h2;exact hb i (by omega) (by omega)
theorem em_bits:∀ s∈[2,3,4],∀ v,v<5->v<=s->∀ t,t<5->1<=t->(2^v).testBit t=true->(2^(s+1)-2).testBit t=true:=by decide
theorem emL_nth {g:List Int} {s:Nat} {i:Nat} (h:i<g.length):(nth (emL g s) i).toNat=emN g s i:=by
 unfold emL;rw [mapTo_nth h]
 simp [emG]
theorem rp_mono {k v:Int} {s:Nat} {xs g g':List Int} (hv:rv k xs v s=true) (hg:gv g s=true) (hg':gv g' s=true) (hs:s∈[2,3,4]) (h:∀ i,i<g.length->nth g' i=nth g i\/nth g' i=0) (hp:rpB k xs v g s=true):rpB k xs v g' s=true:=by
 obtain ⟨_,_,_,hx⟩:=rv_facts rfl hv;have hl:=gv_len hg;have hl':=gv_len hg';rw [rp_ways rfl hv hg hs] at hp;rw [rp_ways rfl hv hg' hs];simp only [Bool.not_eq_true',List.isEmpty_eq_false_iff_exists_mem,List.mem_filter] at hp ⊢;obtain ⟨ys,hy,hh⟩:=hp;refine ⟨ys,allW_mono _ _ _ (fun i _ hi t t1 t4 hb=>?_) hy,hh⟩
 have hi':i<xs.length:=by simpa using hi
 rw [emL_nth (by rw [pks_length];exact hi')] at hb ⊢;obtain ⟨x0,x1⟩:=hx i hi'
 have hlt:(nth xs i).toNat<g.length:=by omega
 unfold emN at hb ⊢;rw [pks_nth hi'] at hb ⊢;obtain ⟨v0,v4⟩:=gv_nth hg hlt;have h24:=gv_size hg
 rcases h _ hlt with e|e
 ·rw [e];exact hb
 ·rw [if_pos e]
  split at hb
  ·exact hb
  ·exact em_bits s hs _ (by omega) (by omega) t (by omega) t1 hb
theorem allW_one {ms zs:List Int}:∀ (d:Nat) (vs:List Int),zs.length=vs.length+d->(∀ i,i<vs.length->nth vs i=nth zs i)->(∀ i,vs.length<=i->i<vs.length+d->bitsTo (nth ms i).toNat 4=[nth zs i])->allW ms d vs=[zs]:=by
 intro d
 induction d with
 |zero=>
  intro vs hl hv _;have:vs=zs:=ext_nth (by omega) (fun i hi=>hv i hi)
  simp [allW,this]
 |succ d ih=>
  intro vs hl hv hb;simp only [allW];rw [hb _ (Nat.le_refl _) (by omega)];simp only [List.flatMap_cons,List.flatMap_nil,List.append_nil];refine ih _ (by simp;omega) (fun i hi=>?_) (fun i h1 h2=>?_)
  ·rw [List.length_append,List.length_singleton] at hi;rw [nth_push rfl]
   split
   ·exact hv i (by assumption)
   ·obtain rfl:i=vs.length:=by omega
    rw [if_pos rfl]
  ·rw [List.length_append,List.length_singleton] at h1 h2;exact hb i (by omega) (by omega)
theorem bits_pow:∀ v:Nat,v<5->1<=v->bitsTo (2^v) 4=[(v:Int)]:=by decide
theorem rp_full {k v s:Int} {xs g:List Int} (hv:rv k xs v s=true) (hg:gv g s=true) (hf:∀ i,i<xs.length->nth (pks g xs xs.length) i≠0):rpB k xs v g s=holdsB k v (pks g xs xs.length):=by
 obtain ⟨h2,h4⟩:=gv_size hg;obtain ⟨t,rfl⟩:=Int.eq_ofNat_of_zero_le (by omega:0<=s)
 have hs:t∈[2,3,4]:=by simp;omega
 obtain ⟨hsm,_⟩:=pks_small rfl hv hg;rw [rp_ways rfl hv hg hs]
 have:allW (emL (pks g xs xs.length) t) xs.length []=[pks g xs xs.length]:=by
  refine allW_one _ _ (by simp [pks_length]) (fun i hi=>absurd hi (by simp)) (fun i _ hi=>?_)
  have hi':i<xs.length:=by simpa using hi
  rw [emL_nth (by rw [pks_length];exact hi')];unfold emN;rw [if_neg (hf i hi')];have:=hsm i hi';have hne:=hf i hi';rw [bits_pow _ (by omega) (by omega)]
  congr 1
  omega
 rw [this]
 cases hh:holdsB k v (pks g xs xs.length)<;>simp [hh]
theorem mem_ne {zs:List Int} {n:Nat} (h:memTo zs 0 n=false):∀ i,i<n->nth zs i≠0:=fun i hi e=>by rw [memTo_hit hi e] at h;cases h
theorem cnz_all {xs:List Int}:∀ {n:Nat},cnz xs n=n->∀ k,k<n->nth xs k≠0:=by
 intro n
 induction n with
 |zero=>intro _ k hk;omega
 |succ n ih=>
  intro h k hk;simp only [cnz] at h;have hle:=cnz_le xs n
  split at h
  ·omega
  ·next hz=>
   by_cases e:k=n
   ·subst e;exact hz
   ·exact ih (by omega) k (by omega)
theorem rh_full {k v s:Int} {xs g:List Int} (hv:rv k xs v s=true) (hg:gv g s=true) (hf:cnz g g.length=g.length):rhB k xs v g s=rpB k xs v g s:=by
 obtain ⟨_,_,_,hx⟩:=rv_facts rfl hv;have hl:=gv_len hg;have hall:=cnz_all hf
 have hne:∀ i,i<xs.length->nth (pks g xs xs.length) i≠0:=fun i hi=>by
  rw [pks_nth hi];obtain ⟨a,b⟩:=hx i hi;exact hall _ (by omega)
 have hm:memTo (pks g xs xs.length) 0 xs.length=false:=by
  cases e:memTo (pks g xs xs.length) 0 xs.length
  ·rfl
  ·exfalso
   have:∀ n,n<=xs.length->memTo (pks g xs xs.length) 0 n=false:=by
    intro n
    induction n with
    |zero=>intro _;rfl
    |succ n ih=>intro hn;simp only [memTo,Bool.or_eq_false_iff,beq_eq_false_iff_ne];exact ⟨ih (by omega),hne n (by omega)⟩
   rw [this _ (Nat.le_refl _)] at e;cases e
 rw [rp_full hv hg hne];unfold rhB;rw [hv,hg,hm]
 simp
def Sub (a b:List Int):Prop:=a.length=b.length/\∀ k,k<b.length->0<=nth a k/\nth a k<=nth b k/\(nth a k).tmod 2=0
theorem mvd_nth {m:List Int} {s:Int} (h:mvd m s=true) (i:Nat):0<=nth m i/\nth m i<=30/\(nth m i).tmod 2=0:=by
 by_cases hi:i<m.length
 ·exact (mvd_at h).2.2.2 i hi
 ·have:nth m i=0:=by simp [nth,List.getD_eq_getElem?_getD,List.getElem?_eq_none (by omega:m.length<=i)]
  rw [this];decide
theorem Sub.of_mvd {m:List Int} {s:Int} (h:mvd m s=true):Sub m m:=⟨rfl,fun k _=>⟨(mvd_nth h k).1,Int.le_refl _,(mvd_nth h k).2.2⟩⟩
theorem Sub.trans {a b c:List Int} (h:Sub a b) (h':Sub b c):Sub a c:=
 ⟨h.1.trans h'.1,fun k hk=>by
   obtain ⟨x1,x2,x3⟩:=h.2 k (by rw [h'.1];exact hk);obtain ⟨_,y2,_⟩:=h'.2 k hk
   exact ⟨x1,by omega,x3⟩⟩
theorem Sub.put {o b:List Int} (h:Sub o b) {k:Nat} {v:Int} (hv:k<b.length->0<=v/\v<=nth b k/\v.tmod 2=0):Sub (o.set k v) b:=by
 refine ⟨by rw [List.length_set];exact h.1,fun j hj=>?_⟩
 by_cases e:k=j
 ·subst e;rw [nth_set (by rw [h.1];exact hj),if_pos rfl];exact hv hj
 ·have:nth (o.set k v) j=nth o j:=by simp only [nth,List.getD_eq_getElem?_getD,List.getElem?_set];rw [if_neg e]
  rw [this];exact h.2 j hj
theorem Sub.mvd_ {a b:List Int} {s:Int} (h:Sub a b) (hb:mvd b s=true):mvd a s=true:=by
 simp only [mvd,Bool.and_eq_true,beq_iff_eq] at hb ⊢;refine ⟨⟨hb.1.1,by rw [h.1];exact hb.1.2⟩,allTo_all (n:=a.length) (fun k hk=>?_) rfl⟩
 have hkb:k<b.length:=by rw [<- h.1];exact hk
 obtain ⟨x1,x2,x3⟩:=h.2 k hkb;have:=List.all_eq_true.1 hb.2 b[k] (List.getElem_mem hkb);simp only [mkOk,Bool.and_eq_true,beq_iff_eq] at this ⊢;obtain ⟨y1,y2⟩:=inr_t this.1
 have e:nth b k=b[k]:=by simp [nth,List.getD_eq_getElem?_getD,hkb]
 exact ⟨by simp only [inr,decide_eq_true_eq];omega,x3⟩
theorem an_key:∀ x,x<32->∀ y,y<32->(0<=bits .andNot .i64 (x:Nat) (y:Nat)/\bits .andNot .i64 (x:Nat) (y:Nat)<=(x:Nat)/\(x%2=0->(bits .andNot .i64 (x:Nat) (y:Nat)).tmod 2=0)):=by decide +kernel
theorem an_sub {x y:Int} (hx:0<=x/\x<=30/\x.tmod 2=0) (hy:0<=y/\y<=30):0<=bits .andNot .i64 x y/\bits .andNot .i64 x y<=x/\(bits .andNot .i64 x y).tmod 2=0:=by
 obtain ⟨a,rfl⟩:=Int.eq_ofNat_of_zero_le hx.1;obtain ⟨b,rfl⟩:=Int.eq_ofNat_of_zero_le hy.1;obtain ⟨q1,q2,q3⟩:=an_key a (by omega) b (by omega);exact ⟨q1,q2,q3 (by have:=hx.2.2;rw [Int.tmod_eq_emod_of_nonneg (by omega)] at this;omega)⟩
theorem ad_key:∀ x,x<32->∀ v,v<5->(0<=bits .and .i64 (x:Nat) (2^v)/\bits .and .i64 (x:Nat) (2^v)<=(x:Nat)/\(x%2=0->(bits .and .i64 (x:Nat) (2^v)).tmod 2=0)):=by decide +kernel
theorem ad_sub {x:Int} {v:Nat} (hx:0<=x/\x<=30/\x.tmod 2=0) (hv:v<=4):0<=bits .and .i64 x (2^v)/\bits .and .i64 x (2^v)<=x/\(bits .and .i64 x (2^v)).tmod 2=0:=by
 obtain ⟨a,rfl⟩:=Int.eq_ofNat_of_zero_le hx.1;obtain ⟨q1,q2,q3⟩:=ad_key a (by omega) v (by omega);exact ⟨q1,q2,q3 (by have:=hx.2.2;rw [Int.tmod_eq_emod_of_nonneg (by omega)] at this;omega)⟩
theorem Sub.at_ {o m:List Int} {s:Int} (h:Sub o m) (hm:mvd m s=true) {k:Nat} (hk:k<m.length):(0<=nth o k/\nth o k<=30/\(nth o k).tmod 2=0)/\nth o k<=nth m k:=by
 obtain ⟨x1,x2,x3⟩:=h.2 k hk;have:=mvd_nth hm k;exact ⟨⟨x1,by omega,x3⟩,x2⟩
theorem Sub.anput {o m:List Int} {s y:Int} (h:Sub o m) (hm:mvd m s=true) (hy:0<=y/\y<=30) (k:Nat):Sub (o.set k (bits .andNot .i64 (nth o k) y)) m:=
 h.put fun hk=>by
  obtain ⟨h1,h2⟩:=h.at_ hm hk;obtain ⟨q1,q2,q3⟩:=an_sub h1 hy;exact ⟨q1,by omega,q3⟩
theorem nsIn_sub {m o:List Int} {s:Int} {S i:Nat} (hm:mvd m s=true) (h:Sub o m) (k:Nat):Sub (nsIn m S i o k) m:=by
 induction k with
 |zero=>exact h
 |succ k ih=>
  simp only [nsIn]
  split
  ·exact ih.anput hm ⟨(mvd_nth hm i).1,(mvd_nth hm i).2.1⟩ k
  ·exact ih
theorem nsTo_sub {m:List Int} {s:Int} {S n:Nat} (hm:mvd m s=true) (i:Nat):Sub (nsTo m S n i) m:=by
 induction i with
 |zero=>exact Sub.of_mvd hm
 |succ i ih=>
  simp only [nsTo]
  split
  ·exact nsIn_sub hm ih n
  ·exact ih
theorem ns_sub {m:List Int} {s:Int} (hm:mvd m s=true) (n:Nat):Sub (nsL m s n) m:=by
 unfold nsL;rw [if_pos hm];exact nsTo_sub hm n
theorem hVs_sub {m o:List Int} {s S:Int} {N:Nat} {u:Int} (hm:mvd m s=true) (h:Sub o m) (r:Nat) (hr:r<=4):Sub (hVs m S N u o r) m:=by
 induction r with
 |zero=>exact h
 |succ r ih=>
  have ih:=ih (by omega);simp only [hVs]
  split
  ·exact ih.put fun hk=>by
    obtain ⟨h1,h2⟩:=ih.at_ hm hk;obtain ⟨q1,q2,q3⟩:=ad_sub (v:=r+1) h1 (by omega);exact ⟨q1,by omega,q3⟩
  ·exact ih
theorem hU_sub {m:List Int} {s S:Int} {N:Nat} (hm:mvd m s=true) (hN:N<=4) (u:Nat):Sub (hU m S N u) m:=by
 induction u with
 |zero=>exact Sub.of_mvd hm
 |succ u ih=>simp only [hU];exact hVs_sub hm ih N hN
theorem nh_sub {m:List Int} {s:Int} (hm:mvd m s=true):Sub (nhL m s) m:=by
 unfold nhL;rw [if_pos hm];exact hU_sub hm (by have:=(mvd_at hm).1;omega) _
theorem pIn_sub {m o:List Int} {s S u:Int} {a b:Nat} (hm:mvd m s=true) (h:Sub o m) (k:Nat):Sub (pIn m S u a b o k) m:=by
 induction k with
 |zero=>exact h
 |succ k ih=>
  simp only [pIn]
  split
  ·exact ih.anput hm ⟨(mvd_nth hm _).1,(mvd_nth hm _).2.1⟩ _
  ·exact ih
theorem pB_sub {m o:List Int} {s S u:Int} {N a:Nat} (hm:mvd m s=true) (h:Sub o m) (b:Nat):Sub (pB m S N u a o b) m:=by
 induction b with
 |zero=>exact h
 |succ b ih=>
  simp only [pB]
  split
  ·exact pIn_sub hm ih N
  ·exact ih
theorem pA_sub {m o:List Int} {s S u:Int} {N:Nat} (hm:mvd m s=true) (h:Sub o m) (a:Nat):Sub (pA m S N u o a) m:=by
 induction a with
 |zero=>exact h
 |succ a ih=>simp only [pA];exact pB_sub hm ih a
theorem pU_sub {m:List Int} {s S:Int} {N:Nat} (hm:mvd m s=true) (u:Nat):Sub (pU m S N u) m:=by
 induction u with
 |zero=>exact Sub.of_mvd hm
 |succ u ih=>simp only [pU];exact pA_sub hm ih N
theorem np_sub {m:List Int} {s:Int} (hm:mvd m s=true):Sub (npL m s) m:=by
 unfold npL;rw [if_pos hm];exact pU_sub hm _
theorem allW_bits {ms:List Int}:∀ {d:Nat} {vs ys:List Int},ys∈allW ms d vs->(∀ i,i<vs.length->nth ys i=nth vs i)/\∀ i,vs.length<=i->i<vs.length+d->nth ys i∈bitsTo (nth ms i).toNat 4:=by
 intro d
 induction d with
 |zero=>intro vs ys h;simp [allW] at h;subst h;exact ⟨fun _ _=>rfl,fun i h1 h2=>absurd h2 (by omega)⟩
 |succ d ih=>
  intro vs ys h;simp only [allW,List.mem_flatMap] at h;obtain ⟨x,hx,h⟩:=h;obtain ⟨h1,h2⟩:=ih h;rw [List.length_append,List.length_singleton] at h1 h2;refine ⟨fun i hi=>?_,fun i hi hi2=>?_⟩
  ·rw [h1 i (by omega),nth_push rfl,if_pos hi]
  ·by_cases e:i=vs.length
   ·subst e;rw [h1 _ (by omega),nth_push rfl,if_neg (by omega),if_pos rfl];exact hx
   ·exact h2 i (by omega) (by omega)
theorem foldAll_bit {j t:Nat}:∀ (L:List (List Int)) (G:List Nat),j<G.length->((L.foldl orAll G).getD j 0).testBit t=true->(G.getD j 0).testBit t=true\/∃ ys∈L,(nth ys j).toNat=t:=by
 intro L
 induction L with
 |nil=>intro G _ h;exact .inl h
 |cons ys L ih=>
  intro G hj h
  rcases ih (orAll G ys) (by rw [orAll_length];exact hj) h with h|⟨zs,hz,e⟩
  ·unfold orAll at h;rw [orTo_get hj,if_pos hj,Nat.testBit_or,Bool.or_eq_true] at h
   rcases h with h|h
   ·exact .inl h
   ·rw [Nat.testBit_two_pow,decide_eq_true_eq] at h;exact .inr ⟨ys,List.mem_cons_self ..,h⟩
  ·exact .inr ⟨zs,List.mem_cons_of_mem _ hz,e⟩
theorem le_of_bits {a b:Nat} (h:∀ t,a.testBit t=true->b.testBit t=true):a<=b:=by
 have e:a&&&b=a:=by
  apply Nat.eq_of_testBit_eq
  intro t;rw [Nat.testBit_and];cases ha:a.testBit t
  ·rfl
  ·rw [h t ha];rfl
 rw [<- e];exact Nat.and_le_right
theorem rm_sub {k v s:Int} {xs o:List Int} (hv:rv k xs v s=true) (hm:mvd o s=true) {j:Nat} (hj:j<xs.length):0<=nth (rmL k xs v o s) j/\nth (rmL k xs v o s) j<=nth o (nth xs j).toNat/\(nth (rmL k xs v o s) j).tmod 2=0:=by
 rw [rm_ways rfl hv hm,nats_nth]
 have hbit:∀ t,(((waysN k v (pks o xs xs.length) xs.length).foldl orAll (zerosN xs.length)).getD j 0).testBit t=true->1<=t/\(nth o (nth xs j).toNat).toNat.testBit t=true:=fun t ht=>by
  rcases foldAll_bit _ _ (by simpa [zerosN] using hj) ht with h|⟨ys,hys,e⟩
  ·simp [zerosN,List.getD_eq_getElem?_getD,hj] at h
  ·have hy:=(allW_bits (List.mem_filter.1 hys).1).2 j (Nat.zero_le _) (by simpa using hj);rw [pks_nth hj] at hy;obtain ⟨u,hu,u1,_,u3⟩:=bits_iff.1 hy;rw [hu] at e;have e2:u=t:=(by simpa using e);subst e2;exact ⟨u1,u3⟩
 obtain ⟨a,ha⟩:∃ a,((waysN k v (pks o xs xs.length) xs.length).foldl orAll (zerosN xs.length)).getD j 0=a:=⟨_,rfl⟩;rw [ha] at hbit ⊢;have hle:=le_of_bits (fun t ht=>(hbit t ht).2);have h0:=(mvd_nth hm (nth xs j).toNat).1;refine ⟨by omega,by omega,?_⟩;rw [Int.tmod_eq_emod_of_nonneg (by omega)]
 have:a.testBit 0=false:=by
  cases hb:a.testBit 0
  ·rfl
  ·have:=(hbit 0 hb).1;omega
 rw [Nat.testBit_zero] at this
 have:a%2≠1:=by simpa using this
 omega
theorem rm_len {k v s:Int} {xs o:List Int} (hv:rv k xs v s=true) (hm:mvd o s=true):(rmL k xs v o s).length=xs.length:=by
 unfold rmL;rw [hv,hm,Bool.true_and,if_pos rfl,nats_length];exact (rmN_inv k xs v o).1
def nrIn (xs f o:List Int):Nat->List Int
 |0=>o
 |j+1=>(nrIn xs f o j).set (nth xs j).toNat (nth f j)
def nrTo (s:Int) (rs:List RuleM) (m:List Int):Nat->List Int
 |0=>m
 |u+1=>nrIn (rat rs u).xs (rmL (rat rs u).k (rat rs u).xs (rat rs u).v (nrTo s rs m u) s) (nrTo s rs m u) (rat rs u).xs.length
def nrL (s:Int) (gi:List Int) (rs:List RuleM) (m:List Int):List Int:=if (pvB s gi rs&&mvd m s)=true then nrTo s rs m rs.length else []
theorem nrIn_sub {k v s:Int} {xs o:List Int} (hv:rv k xs v s=true) (hm:mvd o s=true) (j:Nat) (hj:j<=xs.length):Sub (nrIn xs (rmL k xs v o s) o j) o:=by
 induction j with
 |zero=>exact Sub.of_mvd hm
 |succ j ih=>exact (ih (by omega)).put fun _=>rm_sub hv hm (by omega)
theorem nrTo_sub {s:Int} {rs:List RuleM} {m:List Int} (hm:mvd m s=true) (hr:∀ i,i<rs.length->rvR s (rat rs i)=true) (u:Nat) (hu:u<=rs.length):Sub (nrTo s rs m u) m:=by
 induction u with
 |zero=>exact Sub.of_mvd hm
 |succ u ih=>
  have ih:=ih (by omega);exact (nrIn_sub (hr u (by omega)) (ih.mvd_ hm) _ (Nat.le_refl _)).trans ih
theorem nr_sub {s:Int} {gi:List Int} {rs:List RuleM} {m:List Int} (hv:pvB s gi rs=true) (hm:mvd m s=true):Sub (nrL s gi rs m) m:=by
 unfold nrL;rw [hv,hm,Bool.true_and,if_pos rfl];exact nrTo_sub hm (pv_gv hv).2.2 _ (Nat.le_refl _)
set_option maxHeartbeats 8000000 in
theorem specNarrowRules (s:Int) (Ag:Option Addr) (n cg Bg:Nat) (gi:List Int) (Ar:Option Addr) (nr cr Br:Nat) (rs:List RuleM) (A:Option Addr) (c nm B:Nat) (m:List Int) (w:World) (hp:PGs w s Ag n cg Bg gi Ar nr cr Br rs) (h:Rd w B A nm m) (hBm:B<=w.heap.size) (hm:nm<=1099511627776) (hsb: -9223372036854775808<=s/\s<=9223372036854775807):
 Calls Tryz.prog 145 #[.agg #[.int .i64 s,.slice Ag n cg,.slice Ar nr cr],.slice A nm c] w (RetSl w (nrL s gi rs m)):=by
 have hlen:=Lib.hid h.1;have hlenr:=Lib.hid hp.r.1;have hx0:=pbox_new w s Ag n cg Ar nr cr 26;have hb0:Below w.heap.size w (w.alloc (.cells #[.int .i64 s,.slice Ag n cg,.slice Ar nr cr] 26)):=(Below.refl _ _).alloc (Nat.le_refl _) _
 have hs0:w.heap.size<(w.alloc (.cells #[.int .i64 s,.slice Ag n cg,.slice Ar nr cr] 26)).heap.size:=by simp
 obtain ⟨z0,z1,z2⟩:=id hx0;have HP:=Lib.hid (fun w' (hb:Below w.heap.size w w')=>specPuzzleValid s Ag n cg Bg gi Ar nr cr Br rs w' (hp.below hb).g (hp.below hb).gB hp.gm (hp.below hb).r (hp.below hb).rB hp.rm);have HV:=Lib.hid (fun w' (hb:Below w.heap.size w w')=>specMasksValid A c nm B m s w' (h.below (hb.mono hBm)) (Nat.le_trans hBm hb.size) hm hsb);cases hv:pvB s gi rs
 ·have HL:=Lib.hid (show nrL s gi rs m=[] by simp [nrL,hv])
  go_enter Tryz.func145,Tryz.ntmps145
  go_wp2_with (go_at_call 25;refine (HP.out _ hb0).mono ?_;rintro e w1 ⟨rfl,hb1⟩;rw [hv];have h01:=step hb0 hb1)
  go_ret
  rw [HL.out];exact ⟨_,_,rfl,Ow.made0 _ _ h01.size,h01.alloc h01.size _⟩
 ·cases hmv:mvd m s
  ·have HL:=Lib.hid (show nrL s gi rs m=[] by simp [nrL,hmv])
   go_enter Tryz.func145,Tryz.ntmps145
   go_wp2_with (first
    |(go_at_call 25;refine (HP.out _ hb0).mono ?_;rintro e w1 ⟨rfl,hb1⟩;rw [hv];have h01:=step hb0 hb1;obtain ⟨c0,c1,c2⟩:=hx0.below hs0 hb1)
    |(go_at_call 127;refine (HV.out _ h01).mono ?_;rintro e w2 ⟨rfl,hb2⟩;rw [hmv];have h02:=step h01 hb2))
   go_ret
   rw [HL.out];exact ⟨_,_,rfl,Ow.made0 _ _ h02.size,h02.alloc h02.size _⟩
  ·obtain ⟨⟨s2,s4⟩,hsq,hnm16,_⟩:=mvd_at hmv;rw [hlen.out] at hsq hnm16;have hall:=(pv_gv hv).2.2
   have hnm0:0<nm:=by
    have:s=2\/s=3\/s=4:=(by omega)
    rcases this with rfl|rfl|rfl<;>omega
   have HCp:=Lib.hid (fun w' (hb:Below w.heap.size w w')=>specL6Copy A nm c B m w' (h.below (hb.mono hBm)) (Nat.le_trans hBm hb.size) hm);have HL:=Lib.hid (show nrL s gi rs m=nrTo s rs m nr by unfold nrL;rw [hv,hmv,Bool.true_and,if_pos rfl,hlenr.out]);have HS:=Lib.hid (fun u (hu:u<=nr)=>nrTo_sub (rs:=rs) hmv hall u (by rw [hlenr.out];exact hu));have HA:=Lib.hid (fun u (hu:u<nr)=>hall u (by rw [hlenr.out];exact hu));have Hsq:=Lib.hid hsq;clear hall hsq
   go_enter Tryz.func145,Tryz.ntmps145
   go_wp2_with (first
    |(go_at_call 25;refine (HP.out _ hb0).mono ?_;rintro e w1 ⟨rfl,hb1⟩;rw [hv];have h01:=step hb0 hb1;have hx1:=hx0.below hs0 hb1;have hs1:=Nat.lt_of_lt_of_le hs0 hb1.size;obtain ⟨c0,c1,c2⟩:=id hx1)
    |(go_at_call 127;refine (HV.out _ h01).mono ?_;rintro e w2 ⟨rfl,hb2⟩;rw [hmv];have h02:=step h01 hb2;have hx2:=hx1.below hs1 hb2;have hs2:=Nat.lt_of_lt_of_le hs1 hb2.size)
    |(go_at_call 128;refine (HCp.out _ h02).mono ?_;rintro e w3 ⟨Ac,cc,rfl,ho3,hb3⟩))
   have h03:=step h02 hb3;have hx3:=hx2.below hs2 hb3;obtain ⟨g,rfl,hgl,hgw⟩:=ho3.form hnm0;have hmv':=Lib.hid hmv;clear hmv hx0 hx1 hx2 z0 z1 z2 c0 c1 c2
   go_loopw [6] (fun i wr=>∃ u:Nat,u<=nr/\i=.int .i64 u/\Ow wr w2.heap.size (some ⟨g,0,none⟩) nm cc (nrTo s rs m u)/\PBox wr w.heap.size s Ag n cg Ar nr cr/\Below w.heap.size w wr/\w2.heap.size<=wr.heap.size) (fun i _=>nr-(intOf i).toNat)
   case atStart=>exact ⟨0,Nat.zero_le _,rfl,ho3,hx3,h03,hb3.size⟩
   case round=>
    clear ho3 hx3 h03 hb3;obtain ⟨u,hu,rfl,ho,hx,hb,hsw⟩:=hrel;obtain ⟨c0,c1,c2⟩:=id hx
    by_cases hlt:u<nr
    ·have hltI:(u:Int)<(nr:Int):=(by omega);have hmu:=(HS.out u hu).mvd_ hmv'.out;have hpb:=hp.below hb;obtain ⟨b,off,rfl,hbB,hcc⟩:=hpb.r.2 (by omega);obtain ⟨A',c',r0,r1,r2,r3,r4⟩:=hcc u hlt;have hv0:=HA.out u hlt;have HT0:nrTo s rs m (u+1)=nrIn (rat rs u).xs (rmL (rat rs u).k (rat rs u).xs (rat rs u).v (nrTo s rs m u) s) (nrTo s rs m u) (rat rs u).xs.length:=rfl;obtain ⟨rk,hrk⟩:∃ x,x=(rat rs u).k:=⟨_,rfl⟩;obtain ⟨rx,hrx⟩:∃ x,x=(rat rs u).xs:=⟨_,rfl⟩;obtain ⟨rvv,hrv⟩:∃ x,x=(rat rs u).v:=⟨_,rfl⟩;have hvv:rv rk rx rvv s=true:=(by rw [hrk,hrx,hrv];exact hv0)
     obtain ⟨O,hO⟩:∃ O,O=nrTo s rs m u:=⟨_,rfl⟩;rw [<- hrk,<-hrx,<-hrv,<-hO] at HT0;rw [<- hO] at hmu ho;rw [<- hrk] at r0;rw [<- hrx] at r1 r3 r4;rw [<- hrv] at r2;have hlf:=rm_len (o:=O) hvv hmu;obtain ⟨_,⟨hn1,hn4⟩,_,hxin⟩:=rv_facts rfl hvv;obtain ⟨l,hl⟩:∃ l,l=rx.length:=⟨_,rfl⟩;rw [<- hl] at r1 r3 r4 HT0 hlf hn1 hn4 hxin;have hBr:Br<=wr.heap.size:=hpb.rB;have hrlen:=Lib.hid (show rx.length=l from hl.symm)
     have Hxin:=Lib.hid (show ∀ i,i<l->∃ q:Nat,nth rx i=(q:Int)/\q<nm from fun i hi=>by
      obtain ⟨y0,y1⟩:=hxin i hi;obtain ⟨q,hq⟩:=Int.eq_ofNat_of_zero_le y0
      exact ⟨q,hq,by have:=Hsq.out;omega⟩)
     have hy0:=rbox_new wr rk A' l c' rvv 88;have hb1:Below wr.heap.size wr (wr.alloc (.cells #[.int .i64 rk,.slice A' l c',.int .i64 rvv] 88)):=(Below.refl _ _).alloc (Nat.le_refl _) _;have hs1':(wr.alloc (.cells #[.int .i64 rk,.slice A' l c',.int .i64 rvv] 88)).heap.size=wr.heap.size+1:=(by simp);obtain ⟨y0,y1,y2⟩:=id hy0;obtain ⟨x0,x1,x2⟩:=hx.below (show w.heap.size<wr.heap.size by omega) hb1;obtain ⟨W,hW⟩:∃ W,wr.alloc (.cells #[.int .i64 rk,.slice A' l c',.int .i64 rvv] 88)=W:=⟨_,rfl⟩;rw [hW] at hy0 hb1 hs1';have hxW:=hx.below (show w.heap.size<wr.heap.size by omega) hb1;have hoW:=ho.below hb1;have hrW:=r3.below (hb1.mono hBr);have hbW:=hb.trans (hb1.mono hb.size);have HRM:=Lib.hid (specRuleMasks A' c' l Br rx rk rvv s (some ⟨g,0,none⟩) cc nm W.heap.size O W hrW (by omega) (by omega) hoW.rd (Nat.le_refl _) (by omega) hsb);obtain ⟨f,hf⟩:∃ f,f=rmL rk rx rvv O s:=⟨_,rfl⟩;rw [<- hf] at HRM hlf HT0;have Hlf:=Lib.hid hlf;have HT:=Lib.hid HT0;have HW:=Lib.hid hW;have hgr:g<wr.heap.size:=ho.own_hi g rfl;clear hcc HT0 hlf hrk hrx hrv hvv hv0 hmu hO hf hW hxin hl
     go_wp2_with fail
     rw [HW.out];refine HRM.out.mono ?_;rintro e w4 ⟨A3,c3,rfl,ho4,hb4⟩;rw [Hlf.out] at ho4 ⊢;obtain ⟨g3,rfl,hg3,_⟩:=ho4.form (by omega);have hy4:=hy0.below (show wr.heap.size<W.heap.size by omega) hb4;have hx4:=hxW.below (show w.heap.size<W.heap.size by omega) hb4;have hog:=hoW.below hb4;have hr4:=hrW.below (hb4.mono (show Br<=W.heap.size by omega));have hs4:=hb4.size;have hbw4:=hbW.trans (hb4.mono hbW.size)
     have hbg:∀ b off,A'=some ⟨b,off,none⟩->b≠g:=fun b off e e2=>by
      obtain ⟨b',off',e3,hlt',_⟩:=hrW.2 (by omega);rw [e] at e3
      injection e3 with e3
      injection e3 with e3 _ _
      have:=hp.rB;omega
     have HF:=Lib.hid (fun wx (hg:w4.grownBy wx (some g))=>(⟨(hg.cell_far ⟨wr.heap.size,1,none⟩ (by show wr.heap.size<_;omega) (fun e2=>by have e3:wr.heap.size=g:=Option.some.inj e2;omega)).trans hy4.2.1,hr4.grown hg hbg (show Br<=w4.heap.size by omega),ho4.far hg (fun b hb e2=>by have:=ho4.own_lo b hb;injection e2 with e2;omega)⟩:wx.cell? ⟨wr.heap.size,1,none⟩=some (.slice A' l c')/\Rd wx Br A' l rx/\Ow wx W.heap.size (some ⟨g3,0,none⟩) l c3 f));have HPB:=Lib.hid (fun wx (hg:w4.grownBy wx (some g))=>(⟨(hg.cell_far ⟨w.heap.size,0,none⟩ (by show w.heap.size<_;omega) (fun e2=>by have e3:w.heap.size=g:=Option.some.inj e2;have:=h02.size;omega)).trans hx4.1,(hg.cell_far ⟨w.heap.size,1,none⟩ (by show w.heap.size<_;omega) (fun e2=>by have e3:w.heap.size=g:=Option.some.inj e2;have:=h02.size;omega)).trans hx4.2.1,(hg.cell_far ⟨w.heap.size,2,none⟩ (by show w.heap.size<_;omega) (fun e2=>by have e3:w.heap.size=g:=Option.some.inj e2;have:=h02.size;omega)).trans hx4.2.2⟩:PBox wx w.heap.size s Ag n cg (some ⟨b,off,none⟩) nr cr))
     clear y0 y1 y2 x0 x1 x2 c0 c1 c2 r0 r1 r2 r3 hy0 hxW hoW hrW ho hx hbg
     go_wp2
     go_loopw [9] (fun j wx=>∃ k:Nat,k<=l/\j=.int .i64 k/\Ow wx w2.heap.size (some ⟨g,0,none⟩) nm cc (nrIn rx f O k)/\w4.grownBy wx (some g)) (fun j _=>l-(intOf j).toNat)
     case atStart=>exact ⟨0,Nat.zero_le _,rfl,hog,World.grownBy.refl _ _⟩
     case round=>
      obtain ⟨k,hk,rfl,ho,hg⟩:=hrel;obtain ⟨y1,hrd,hof⟩:=HF.out _ hg
      by_cases hkl:k<l
      ·have hklI:(k:Int)<(l:Int):=(by omega);obtain ⟨q,hq,hqn⟩:=Hxin.out k hkl;obtain ⟨b',off',rfl,hbB',hcx⟩:=hrd.at_ hkl;rw [hq] at hcx;obtain ⟨hcf,_⟩:=hof.cell hkl;obtain ⟨hcell,hfr⟩:=ho.cell hqn;have HN:=Lib.hid (show nrIn rx f O (k+1)=(nrIn rx f O k).set q (nth f k) by simp only [nrIn,hq,Int.toNat_natCast]);have hput:=Lib.hid (ho.putN q (nth f k));have hgp:=Lib.hid (grown_drew (hg.trans (grown_set (w:=wr) (G:=g) (i:=q) (v:=.int .i64 (nth f k)))));clear hq
       go_wp2
       go_region
       go_wp2
       go_roundw
       case rel=>exact ⟨k+1,by omega,by go_num,by rw [HN.out];exact hput.out,hgp.out⟩
       case measure=>simp [intOf];omega
      ·obtain rfl:k=l:=by omega
       have hrm:=hp.rm
       go_wp2
       go_roundw
       case rel=>exact ⟨u+1,hlt,by go_num,by rw [HT.out];exact ho,HPB.out _ hg,hbw4.grown hg hbw4.size (fun k hk=>by injection hk with hk;omega),by have:=hg.size;omega⟩
       case measure=>simp [intOf];omega
    ·obtain rfl:u=nr:=by omega
     go_wp2
     go_ret
     rw [HL.out];exact retSl_mk (ho.mono (by omega)) hb
def nbL (s:Int) (gi:List Int) (rs:List RuleM) (m:List Int) (t:Int):List Int:=
 if (pvB s gi rs&&mvd m s)=true then (if t=1 then nsL m s m.length else if t=2 then nhL m s else if t=3 then npL m s else if t=4 then nrL s gi rs m else []) else []
theorem nb_sub {s:Int} {gi:List Int} {rs:List RuleM} {m:List Int} {t:Int} (hv:pvB s gi rs=true) (hm:mvd m s=true) (h1:1<=t) (h4:t<=4):Sub (nbL s gi rs m t) m:=by
 unfold nbL;rw [hv,hm,Bool.true_and,if_pos rfl]
 have:t=1\/t=2\/t=3\/t=4:=by omega
 rcases this with rfl|rfl|rfl|rfl
 ·exact ns_sub hm _
 ·exact nh_sub hm
 ·exact np_sub hm
 ·exact nr_sub hv hm
set_option maxHeartbeats 4000000 in
theorem specNarrowBy (s:Int) (Ag:Option Addr) (n cg Bg:Nat) (gi:List Int) (Ar:Option Addr) (nr cr Br:Nat) (rs:List RuleM) (A:Option Addr) (c nm B:Nat) (m:List Int) (t:Int) (w:World) (hp:PGs w s Ag n cg Bg gi Ar nr cr Br rs) (h:Rd w B A nm m) (hBm:B<=w.heap.size) (hm:nm<=1099511627776) (hsb: -9223372036854775808<=s/\s<=9223372036854775807):
 Calls Tryz.prog 97 #[.agg #[.int .i64 s,.slice Ag n cg,.slice Ar nr cr],.slice A nm c,.int .i64 t] w (RetSl w (nbL s gi rs m t)):=by
 have hlen:=Lib.hid h.1;have hx0:=pbox_new w s Ag n cg Ar nr cr 26;have hb0:Below w.heap.size w (w.alloc (.cells #[.int .i64 s,.slice Ag n cg,.slice Ar nr cr] 26)):=(Below.refl _ _).alloc (Nat.le_refl _) _
 have hs0:w.heap.size<(w.alloc (.cells #[.int .i64 s,.slice Ag n cg,.slice Ar nr cr] 26)).heap.size:=by simp
 obtain ⟨z0,z1,z2⟩:=id hx0;have HP:=Lib.hid (fun w' (hb:Below w.heap.size w w')=>specPuzzleValid s Ag n cg Bg gi Ar nr cr Br rs w' (hp.below hb).g (hp.below hb).gB hp.gm (hp.below hb).r (hp.below hb).rB hp.rm);have HV:=Lib.hid (fun w' (hb:Below w.heap.size w w')=>specMasksValid A c nm B m s w' (h.below (hb.mono hBm)) (Nat.le_trans hBm hb.size) hm hsb);cases hv:pvB s gi rs
 ·have HL:=Lib.hid (show nbL s gi rs m t=[] by simp [nbL,hv])
  go_enter Tryz.func97,Tryz.ntmps97
  go_wp2_with (go_at_call 25;refine (HP.out _ hb0).mono ?_;rintro e w1 ⟨rfl,hb1⟩;rw [hv];have h01:=step hb0 hb1)
  go_ret
  rw [HL.out];exact ⟨_,_,rfl,Ow.made0 _ _ h01.size,h01.alloc h01.size _⟩
 ·cases hmv:mvd m s
  ·have HL:=Lib.hid (show nbL s gi rs m t=[] by simp [nbL,hmv])
   go_enter Tryz.func97,Tryz.ntmps97
   go_wp2_with (first
    |(go_at_call 25;refine (HP.out _ hb0).mono ?_;rintro e w1 ⟨rfl,hb1⟩;rw [hv];have h01:=step hb0 hb1;obtain ⟨c0,c1,c2⟩:=hx0.below hs0 hb1)
    |(go_at_call 127;refine (HV.out _ h01).mono ?_;rintro e w2 ⟨rfl,hb2⟩;rw [hmv];have h02:=step h01 hb2))
   go_ret
   rw [HL.out];exact ⟨_,_,rfl,Ow.made0 _ _ h02.size,h02.alloc h02.size _⟩
  ·have h64:Hid (∀ k,k<nm-> -9223372036854775808<=nth m k/\nth m k<=9223372036854775807):=Lib.hid (fun k _=>by have:=mvd_nth hmv k;omega);have HL0:nbL s gi rs m t=(if t=1 then nsL m s m.length else if t=2 then nhL m s else if t=3 then npL m s else if t=4 then nrL s gi rs m else []):=(by unfold nbL;rw [hv,hmv,Bool.true_and,if_pos rfl]);rw [hlen.out] at HL0
   by_cases h1:t=1
   ·subst h1;have HL:=Lib.hid (show nbL s gi rs m 1=nsL m s nm by rw [HL0];rfl);have HC:=Lib.hid (fun w' (hb:Below w.heap.size w w')=>specNarrowSingles A c nm B m s w' (h.below (hb.mono hBm)) (Nat.le_trans hBm hb.size) hm hsb h64);clear HL0
    go_enter Tryz.func97,Tryz.ntmps97
    go_wp2_with (first
     |(go_at_call 25;refine (HP.out _ hb0).mono ?_;rintro e w1 ⟨rfl,hb1⟩;rw [hv];have h01:=step hb0 hb1;have hx1:=hx0.below hs0 hb1;have hs1:=Nat.lt_of_lt_of_le hs0 hb1.size;obtain ⟨c0,c1,c2⟩:=id hx1)
     |(go_at_call 127;refine (HV.out _ h01).mono ?_;rintro e w2 ⟨rfl,hb2⟩;rw [hmv];have h02:=step h01 hb2;obtain ⟨d0,d1,d2⟩:=hx1.below hs1 hb2)
     |(go_at_call 142;refine (HC.out _ h02).mono ?_;rintro e w3 ⟨A3,c3,rfl,ho3,hb3⟩))
    go_ret
    rw [HL.out];exact ⟨_,_,rfl,ho3.mono h02.size,step h02 hb3⟩
   ·have n1:(t==1)=false:=(by simpa using h1)
    by_cases h2:t=2
    ·subst h2;have HL:=Lib.hid (show nbL s gi rs m 2=nhL m s by rw [HL0];rfl);have HC:=Lib.hid (fun w' (hb:Below w.heap.size w w')=>specNarrowHidden A c nm B m s w' (h.below (hb.mono hBm)) (Nat.le_trans hBm hb.size) hm hsb);clear HL0
     go_enter Tryz.func97,Tryz.ntmps97
     go_wp2_with (first
      |(go_at_call 25;refine (HP.out _ hb0).mono ?_;rintro e w1 ⟨rfl,hb1⟩;rw [hv];have h01:=step hb0 hb1;have hx1:=hx0.below hs0 hb1;have hs1:=Nat.lt_of_lt_of_le hs0 hb1.size;obtain ⟨c0,c1,c2⟩:=id hx1)
      |(go_at_call 127;refine (HV.out _ h01).mono ?_;rintro e w2 ⟨rfl,hb2⟩;rw [hmv];have h02:=step h01 hb2;obtain ⟨d0,d1,d2⟩:=hx1.below hs1 hb2)
      |(go_at_call 143;refine (HC.out _ h02).mono ?_;rintro e w3 ⟨A3,c3,rfl,ho3,hb3⟩))
     go_ret
     rw [HL.out];exact ⟨_,_,rfl,ho3.mono h02.size,step h02 hb3⟩
    ·have n2:(t==2)=false:=(by simpa using h2)
     by_cases h3:t=3
     ·subst h3;have HL:=Lib.hid (show nbL s gi rs m 3=npL m s by rw [HL0];rfl);have HC:=Lib.hid (fun w' (hb:Below w.heap.size w w')=>specNarrowPairs A c nm B m s w' (h.below (hb.mono hBm)) (Nat.le_trans hBm hb.size) hm hsb);clear HL0
      go_enter Tryz.func97,Tryz.ntmps97
      go_wp2_with (first
       |(go_at_call 25;refine (HP.out _ hb0).mono ?_;rintro e w1 ⟨rfl,hb1⟩;rw [hv];have h01:=step hb0 hb1;have hx1:=hx0.below hs0 hb1;have hs1:=Nat.lt_of_lt_of_le hs0 hb1.size;obtain ⟨c0,c1,c2⟩:=id hx1)
       |(go_at_call 127;refine (HV.out _ h01).mono ?_;rintro e w2 ⟨rfl,hb2⟩;rw [hmv];have h02:=step h01 hb2;obtain ⟨d0,d1,d2⟩:=hx1.below hs1 hb2)
       |(go_at_call 144;refine (HC.out _ h02).mono ?_;rintro e w3 ⟨A3,c3,rfl,ho3,hb3⟩))
      go_ret
      rw [HL.out];exact ⟨_,_,rfl,ho3.mono h02.size,step h02 hb3⟩
     ·have n3:(t==3)=false:=(by simpa using h3)
      by_cases h4:t=4
      ·subst h4;have HL:=Lib.hid (show nbL s gi rs m 4=nrL s gi rs m by rw [HL0];rfl);have HC:=Lib.hid (fun w' (hb:Below w.heap.size w w')=>specNarrowRules s Ag n cg Bg gi Ar nr cr Br rs A c nm B m w' (hp.below hb) (h.below (hb.mono hBm)) (Nat.le_trans hBm hb.size) hm hsb);clear HL0
       go_enter Tryz.func97,Tryz.ntmps97
       go_wp2_with (first
        |(go_at_call 25;refine (HP.out _ hb0).mono ?_;rintro e w1 ⟨rfl,hb1⟩;rw [hv];have h01:=step hb0 hb1;have hx1:=hx0.below hs0 hb1;have hs1:=Nat.lt_of_lt_of_le hs0 hb1.size;obtain ⟨c0,c1,c2⟩:=id hx1)
        |(go_at_call 127;refine (HV.out _ h01).mono ?_;rintro e w2 ⟨rfl,hb2⟩;rw [hmv];have h02:=step h01 hb2;obtain ⟨d0,d1,d2⟩:=hx1.below hs1 hb2)
        |(go_at_call 145;refine (HC.out _ h02).mono ?_;rintro e w3 ⟨A3,c3,rfl,ho3,hb3⟩))
       go_ret
       rw [HL.out];exact ⟨_,_,rfl,ho3.mono h02.size,step h02 hb3⟩
      ·have n4:(t==4)=false:=(by simpa using h4);have HL:=Lib.hid (show nbL s gi rs m t=[] by rw [HL0,if_neg h1,if_neg h2,if_neg h3,if_neg h4]);clear HL0
       go_enter Tryz.func97,Tryz.ntmps97
       go_wp2_with (first
        |(go_at_call 25;refine (HP.out _ hb0).mono ?_;rintro e w1 ⟨rfl,hb1⟩;rw [hv];have h01:=step hb0 hb1;have hx1:=hx0.below hs0 hb1;have hs1:=Nat.lt_of_lt_of_le hs0 hb1.size;obtain ⟨c0,c1,c2⟩:=id hx1)
        |(go_at_call 127;refine (HV.out _ h01).mono ?_;rintro e w2 ⟨rfl,hb2⟩;rw [hmv];have h02:=step h01 hb2;obtain ⟨d0,d1,d2⟩:=hx1.below hs1 hb2))
       go_ret
       rw [HL.out];exact ⟨_,_,rfl,Ow.made0 _ _ h02.size,h02.alloc h02.size _⟩
theorem sameInts_any (A A':Option Addr) (c c' n n' B B':Nat) (xs ys:List Int) (w:World) (h:Rd w B A n xs) (h':Rd w B' A' n' ys) (hm:n<=1099511627776):
 Calls Tryz.prog 24 #[.slice A n c,.slice A' n' c'] w fun e w'=>e=.returned (.bool (same xs ys))/\Below w.heap.size w w':=by
 have hl:=Lib.hid h.1;have hl':=Lib.hid h'.1
 by_cases hnn:n=n'
 ·subst hnn
  go_enter Tryz.func24,Tryz.ntmps24
  go_wp2
  go_loopw [5] (fun i wr=>∃ k:Nat,k<=n/\i=.int .i64 k/\eqTo xs ys k/\Below w.heap.size w wr/\Rd wr B A n xs/\Rd wr B' A' n ys) (fun i _=>n-(intOf i).toNat)
  case atStart=>exact ⟨0,Nat.zero_le _,rfl,eqTo_zero,Below.refl _ _,h,h'⟩
  case round=>
   obtain ⟨k,hk,rfl,heq,hb,hr,hr'⟩:=hrel
   by_cases hlt:k<n
   ·obtain ⟨b,off,rfl,hbB,hck⟩:=hr.at_ hlt;obtain ⟨b',off',rfl,hbB',hck'⟩:=hr'.at_ hlt;have hltI:(k:Int)<(n:Int):=(by omega)
    by_cases e:nth xs k=nth ys k
    ·have hne:(nth xs k != nth ys k)=false:=(by simp [e]);have He:=Lib.hid e;clear e
     go_wp2
     go_quiet (fail)
     go_wp2
     go_roundw
     case rel=>exact ⟨k+1,by omega,by go_num,eqTo_succ heq He.out,below_drewN hb _,hr,hr'⟩
     case measure=>simp [intOf];omega
    ·have hne:(nth xs k != nth ys k)=true:=(by simp [e]);have He:=Lib.hid e;clear e
     go_wp2
     go_quiet (fail)
     go_wp2
     go_ret
     exact ⟨by rw [same_f He.out];rfl,below_drewN hb _⟩
   ·obtain rfl:k=n:=by omega
    go_wp2
    go_ret
    exact ⟨by rw [same_t hl.out hl'.out heq];rfl,hb⟩
 ·have hne:((n:Int) != (n':Int))=true:=by rw [bne_iff_ne];omega
  go_enter Tryz.func24,Tryz.ntmps24
  go_wp2
  go_ret
  exact ⟨by rw [same_len (by rw [hl.out,hl'.out];exact hnn)];rfl,Below.refl _ _⟩
theorem specL8Same (A A':Option Addr) (c c' n n' B B':Nat) (xs ys:List Int) (w:World) (h:Rd w B A n xs) (h':Rd w B' A' n' ys) (hm:n<=1099511627776):
 Calls Tryz.prog 98 #[.slice A n c,.slice A' n' c'] w fun e w'=>e=.returned (.bool (same xs ys))/\Below w.heap.size w w':=by
 have hl:=Lib.hid h.1;have hl':=Lib.hid h'.1
 by_cases hnn:n=n'
 ·subst hnn
  go_enter Tryz.func98,Tryz.ntmps98
  go_wp2
  go_loopw [5] (fun i wr=>∃ k:Nat,k<=n/\i=.int .i64 k/\eqTo xs ys k/\Below w.heap.size w wr/\Rd wr B A n xs/\Rd wr B' A' n ys) (fun i _=>n-(intOf i).toNat)
  case atStart=>exact ⟨0,Nat.zero_le _,rfl,eqTo_zero,Below.refl _ _,h,h'⟩
  case round=>
   obtain ⟨k,hk,rfl,heq,hb,hr,hr'⟩:=hrel
   by_cases hlt:k<n
   ·obtain ⟨b,off,rfl,hbB,hck⟩:=hr.at_ hlt;obtain ⟨b',off',rfl,hbB',hck'⟩:=hr'.at_ hlt;have hltI:(k:Int)<(n:Int):=(by omega)
    by_cases e:nth xs k=nth ys k
    ·have hne:(nth xs k != nth ys k)=false:=(by simp [e]);have He:=Lib.hid e;clear e
     go_wp2
     go_quiet (fail)
     go_wp2
     go_roundw
     case rel=>exact ⟨k+1,by omega,by go_num,eqTo_succ heq He.out,below_drewN hb _,hr,hr'⟩
     case measure=>simp [intOf];omega
    ·have hne:(nth xs k != nth ys k)=true:=(by simp [e]);have He:=Lib.hid e;clear e
     go_wp2
     go_quiet (fail)
     go_wp2
     go_ret
     exact ⟨by rw [same_f He.out];rfl,below_drewN hb _⟩
   ·obtain rfl:k=n:=by omega
    go_wp2
    go_ret
    exact ⟨by rw [same_t hl.out hl'.out heq];rfl,hb⟩
 ·have hne:((n:Int) != (n':Int))=true:=by rw [bne_iff_ne];omega
  go_enter Tryz.func98,Tryz.ntmps98
  go_wp2
  go_ret
  exact ⟨by rw [same_len (by rw [hl.out,hl'.out];exact hnn)];rfl,Below.refl _ _⟩
def sumTo (xs:List Int):Nat->Nat
 |0=>0
 |k+1=>sumTo xs k+(nth xs k).toNat
def sumAt (w:World) (v:Value):Nat->Nat
 |0=>0
 |k+1=>sumAt w v k+(match v with|.slice (some a) _ _=>(match w.cell? ⟨a.block,a.off+k,none⟩ with|some (.int _ z)=>z.toNat|_=>0)|_=>0)
theorem sumAt_ow {w:World} {lo n c:Nat} {A:Option Addr} {xs:List Int} (h:Ow w lo A n c xs):∀ k,k<=n->sumAt w (.slice A n c) k=sumTo xs k:=by
 intro k
 induction k with
 |zero=>intro _;rfl
 |succ k ih=>
  intro hk;obtain ⟨b,off,rfl,_,hc⟩:=h.rd.at_ (show k<n by omega);simp only [sumAt,sumTo];rw [ih (by omega),hc]
theorem sum_le {a b:List Int} (h:Sub a b):∀ k,k<=b.length->sumTo a k<=sumTo b k:=by
 intro k
 induction k with
 |zero=>intro _;exact Nat.le_refl _
 |succ k ih=>
  intro hk;obtain ⟨x0,x1,_⟩:=h.2 k (by omega);have:=ih (by omega);simp only [sumTo];omega
theorem sum_lt {a b:List Int} (h:Sub a b) (hne:a≠b):sumTo a b.length<sumTo b b.length:=by
 have:∃ k,k<b.length/\nth a k≠nth b k:=by
  by_cases hx:∃ k,k<b.length/\nth a k≠nth b k
  ·exact hx
  ·exact absurd (ext_nth h.1 fun k hk=>by
    by_cases e:nth a k=nth b k
    ·exact e
    ·exact absurd ⟨k,by rw [<- h.1];exact hk,e⟩ hx) hne
 obtain ⟨k,hk,e⟩:=this
 have key:∀ j,k<j->j<=b.length->sumTo a j<sumTo b j:=by
  intro j
  induction j with
  |zero=>intro h;omega
  |succ j ih=>
   intro h1 h2;obtain ⟨x0,x1,_⟩:=h.2 j (by omega);simp only [sumTo]
   by_cases hj:k<j
   ·have:=ih hj (by omega);omega
   ·obtain rfl:j=k:=by omega
    have:=sum_le h j (by omega);omega
 exact key _ hk (Nat.le_refl _)
end Go.Proofs.YtkeoflnmbcdmfaaGreatDoor
