import Derived.Test.YtkeoflnmbcdmfaaGreatDoorC3
namespace Go.Proofs.YtkeoflnmbcdmfaaGreatDoor
open Go.ChangeShapes Go.WideShapes Go.ChangeAt Go.RowKit
def oneOf (L:List Int):Int:=if L.length=1 then nth L 0 else 0
def mgG (xs:List Int) (k:Nat):Int:=oneOf (maskVals (nth xs k))
def mgL (xs:List Int) (size:Int):List Int:=if mvd xs size=true then mapTo (mgG xs) xs.length else []
theorem mvd_at {xs:List Int} {size:Int} (h:mvd xs size=true):(2<=size/\size<=4)/\(xs.length:Int)=size*size/\xs.length<=16/\∀ k,k<xs.length->0<=nth xs k/\nth xs k<=30/\(nth xs k).tmod 2=0:=by
 simp only [mvd,Bool.and_eq_true,beq_iff_eq,List.all_eq_true] at h;obtain ⟨⟨h1,h2⟩,h3⟩:=h;obtain ⟨s2,s4⟩:=inr_t h1;obtain ⟨q4,q16⟩:=sq_bd s2 s4;refine ⟨⟨s2,s4⟩,h2,by omega,fun k hk=>?_⟩;have hm:=h3 _ (List.getElem_mem hk);simp only [mkOk,Bool.and_eq_true,beq_iff_eq] at hm
 have e:nth xs k=xs[k]:=by simp [nth,List.getD_eq_getElem?_getD,hk]
 rw [e];obtain ⟨m0,m1⟩:=inr_t hm.1
 have hp:(2:Int)^(size.toNat+1)<=32:=by
  have:size=2\/size=3\/size=4:=by omega
  rcases this with rfl|rfl|rfl<;>decide
 exact ⟨m0,by omega,hm.2⟩
set_option maxHeartbeats 400000 in
theorem specMasksGrid (A:Option Addr) (c n B:Nat) (xs:List Int) (size:Int) (w:World) (h:Rd w B A n xs) (hB:B<=w.heap.size) (hm:n<=1099511627776) (hs: -9223372036854775808<=size/\size<=9223372036854775807):
 Calls Tryz.prog 78 #[.slice A n c,.int .i64 size] w (RetSl w (mgL xs size)):=by
 have hlen:=Lib.hid h.1;cases hg:mvd xs size
 ·have HL:=Lib.hid (show mgL xs size=[] by simp [mgL,hg]);have h1:=h.alloc hB (.cells #[] 3)
  have hB1:B<=(w.alloc (.cells #[] 3)).heap.size:=by simp;omega
  have hw0:Below w.heap.size w (w.alloc (.cells #[] 3)):=(Below.refl _ _).alloc (Nat.le_refl _) _
  by_cases h0:0<n
  ·go_enter Tryz.func78,Tryz.ntmps78
   go_wp2
   go_loopw [5,6] (fun v i wr=>i=.int .i64 0/\v=.slice (some ⟨w.heap.size,0,none⟩) 0 0/\wr=w.alloc (.cells #[] 3)) (fun _ _ _=>0)
   case atStart=>exact ⟨rfl,rfl,rfl⟩
   case round=>
    obtain ⟨rfl,rfl,rfl⟩:=hrel
    go_wp2_with (go_at_call 127;refine (specMasksValid _ _ _ _ _ _ _ h1 hB1 hm hs).mono ?_;rintro e w1 ⟨rfl,hb1⟩;rw [hg];have ho1:=(Ow.made0 w w.heap.size (Nat.le_refl _)).below hb1;have hb2:=step hw0 hb1;clear hb1)
    go_ret
    rw [HL.out];exact ⟨_,_,rfl,ho1,hb2⟩
  ·go_enter Tryz.func78,Tryz.ntmps78
   go_wp2
   go_loopw [5,6] (fun v i wr=>i=.int .i64 0/\v=.slice (some ⟨w.heap.size,0,none⟩) 0 0/\wr=w.alloc (.cells #[] 3)) (fun _ _ _=>0)
   case atStart=>exact ⟨rfl,rfl,rfl⟩
   case round=>
    obtain ⟨rfl,rfl,rfl⟩:=hrel
    go_wp2
    go_ret
    rw [HL.out];exact ⟨_,_,rfl,Ow.made0 _ _ (Nat.le_refl _),hw0⟩
 ·have HL:=Lib.hid (show mgL xs size=mapTo (mgG xs) n by simp [mgL,hg,hlen.out]);obtain ⟨_,_,h16,hat⟩:=mvd_at hg;rw [hlen.out] at h16 hat;have Hat:=Lib.hid hat;clear hat
  go_enter Tryz.func78,Tryz.ntmps78
  go_wp2
  go_loopw [5,6] (fun v i wr=>∃ k:Nat,k<=n/\i=.int .i64 k/\OwV wr w.heap.size v (mapTo (mgG xs) k)/\Below w.heap.size w wr) (fun _ i _=>n-(intOf i).toNat)
  case atStart=>exact ⟨0,by omega,rfl,⟨_,_,rfl,Ow.made0 _ _ (Nat.le_refl _)⟩,(Below.refl _ _).alloc (Nat.le_refl _) _⟩
  case round=>
   obtain ⟨k,hk,rfl,⟨A',c',rfl,ho⟩,hb⟩:=hrel;have hkb:(mapTo (mgG xs) k).length<=1099511627776:=(by rw [mapTo_length];omega);have hr:=h.below (hb.mono hB);have hBr:B<=wr.heap.size:=Nat.le_trans hB hb.size
   by_cases hlt:k<n
   ·obtain ⟨b,off,rfl,hbB,hck0⟩:=h.at_ hlt;obtain ⟨x0,x1,_⟩:=Hat.out k hlt;have Hc0:=Lib.hid hck0;clear hck0
    by_cases hone:(maskVals (nth xs k)).length=1
    ·have Hone:=Lib.hid (show mgG xs k=nth (maskVals (nth xs k)) 0 by simp [mgG,oneOf,hone]);have hz1:(((maskVals (nth xs k)).length:Int)==1)=true:=(by rw [hone];rfl);have hl0:0<(maskVals (nth xs k)).length:=(by omega);clear hone
     go_wp2_with (first
      |(go_at_call 127;refine (specMasksValid _ _ _ _ _ _ _ hr hBr hm hs).mono ?_;rintro e w1 ⟨rfl,hb1⟩;rw [hg];have ho1:=ho.below hb1;have hb2:=step hb hb1;have hck:=((hb2.cell (p:=⟨b,off+k,none⟩) (Nat.lt_of_lt_of_le hbB hB)).trans Hc0.out);clear hb1)
      |(go_at_call 129;refine (specMaskValues _ _ (by omega)).mono ?_;rintro e w2 ⟨A2,c2,rfl,ho2,hb3⟩;have ho3:=ho1.below hb3;have hb4:=step hb2 hb3;obtain ⟨b2,o2,rfl,_,hc2⟩:=ho2.rd.at_ hl0;rw [Nat.add_zero] at hc2)
      |(at_builtin;refine push_int rfl (.tmp 32) (.tmp 34) rfl w.heap.size A' _ c' (mapTo (mgG xs) k) _ rfl rfl ho3 hkb hb4.size ?_;intro A'' c'' w5 ho5 hg5))
     have ho6:OwV w5 w.heap.size (.slice A'' ((mapTo (mgG xs) k).length+1) c'') (mapTo (mgG xs) (k+1)):=by
      refine ⟨A'',c'',by rw [mapTo_succ,List.length_append];rfl,?_⟩;rw [mapTo_succ,List.length_append,Hone.out];exact ho5
     have hb5:=push_below hb4 ho3 (Nat.le_refl _) hb4.size hg5;clear ho5 hg5
     go_roundw
     case rel=>exact ⟨k+1,by omega,by go_num,ho6,hb5⟩
     case measure=>simp [intOf];omega
    ·have Hone:=Lib.hid (show mgG xs k=0 by simp [mgG,oneOf,hone]);have hz1:(((maskVals (nth xs k)).length:Int)==1)=false:=(by simp;omega);clear hone
     go_wp2_with (first
      |(go_at_call 127;refine (specMasksValid _ _ _ _ _ _ _ hr hBr hm hs).mono ?_;rintro e w1 ⟨rfl,hb1⟩;rw [hg];have ho1:=ho.below hb1;have hb2:=step hb hb1;have hck:=((hb2.cell (p:=⟨b,off+k,none⟩) (Nat.lt_of_lt_of_le hbB hB)).trans Hc0.out);clear hb1)
      |(go_at_call 129;refine (specMaskValues _ _ (by omega)).mono ?_;rintro e w2 ⟨A2,c2,rfl,ho2,hb3⟩;have ho3:=ho1.below hb3;have hb4:=step hb2 hb3)
      |(at_builtin;refine push_int rfl (.tmp 32) (.tmp 34) rfl w.heap.size A' _ c' (mapTo (mgG xs) k) _ rfl rfl ho3 hkb hb4.size ?_;intro A'' c'' w5 ho5 hg5))
     have ho6:OwV w5 w.heap.size (.slice A'' ((mapTo (mgG xs) k).length+1) c'') (mapTo (mgG xs) (k+1)):=by
      refine ⟨A'',c'',by rw [mapTo_succ,List.length_append];rfl,?_⟩;rw [mapTo_succ,List.length_append,Hone.out];exact ho5
     have hb5:=push_below hb4 ho3 (Nat.le_refl _) hb4.size hg5;clear ho5 hg5
     go_roundw
     case rel=>exact ⟨k+1,by omega,by go_num,ho6,hb5⟩
     case measure=>simp [intOf];omega
   ·obtain rfl:k=n:=by omega
    go_wp2
    go_ret
    rw [HL.out];exact ⟨_,_,rfl,ho,hb⟩
end Go.Proofs.YtkeoflnmbcdmfaaGreatDoor
