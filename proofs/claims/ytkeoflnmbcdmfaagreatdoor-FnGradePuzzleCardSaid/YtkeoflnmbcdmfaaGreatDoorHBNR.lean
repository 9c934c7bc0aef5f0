import Derived.Test.YtkeoflnmbcdmfaaGreatDoorHBOnes2
set_option maxRecDepth 8000
namespace Go.Proofs.YtkeoflnmbcdmfaaGreatDoor
open Go.ChangeShapes Go.WideShapes Go.ChangeAt Go.RowKit
def up1 (C:Nat->Nat) (j:Nat):Nat->Nat:=fun i=>if i=j then C i+1 else C i
theorem cN_up (v:Nat->Nat) (k:Nat):(fun x=>cN v x (k+1))=up1 (fun x=>cN v x k) (v k):=by
 funext x
 simp only [cN,up1]
 by_cases h:v k=x
 ·rw [if_pos h,if_pos h.symm]
 ·rw [if_neg h,if_neg (fun e=>h e.symm)]
def kcells (C:Nat->Nat):Array Value:= #[.int .i64 (C 0),.int .i64 (C 1),.int .i64 (C 2),.int .i64 (C 3),.int .i64 (C 4),.int .i64 (C 5),.int .i64 (C 6),.int .i64 (C 7),.int .i64 (C 8),.int .i64 (C 9),.int .i64 (C 10),.int .i64 (C 11),.int .i64 (C 12),.int .i64 (C 13),.int .i64 (C 14),.int .i64 (C 15),.int .i64 (C 16),.int .i64 (C 17),.int .i64 (C 18),.int .i64 (C 19),.int .i64 (C 20),.int .i64 (C 21),.int .i64 (C 22),.int .i64 (C 23),.int .i64 (C 24),.int .i64 (C 25),.int .i64 (C 26),.int .i64 (C 27),.int .i64 (C 28),.int .i64 (C 29),.int .i64 (C 30),.int .i64 (C 31)]
theorem kcells_size (C:Nat->Nat):(kcells C).size=32:=rfl
theorem kcell_at (C:Nat->Nat):∀ {l:Nat},l<32->(kcells C)[l]? =some (.int .i64 (C l))
 |0,_=>rfl
 |1,_=>rfl
 |2,_=>rfl
 |3,_=>rfl
 |4,_=>rfl
 |5,_=>rfl
 |6,_=>rfl
 |7,_=>rfl
 |8,_=>rfl
 |9,_=>rfl
 |10,_=>rfl
 |11,_=>rfl
 |12,_=>rfl
 |13,_=>rfl
 |14,_=>rfl
 |15,_=>rfl
 |16,_=>rfl
 |17,_=>rfl
 |18,_=>rfl
 |19,_=>rfl
 |20,_=>rfl
 |21,_=>rfl
 |22,_=>rfl
 |23,_=>rfl
 |24,_=>rfl
 |25,_=>rfl
 |26,_=>rfl
 |27,_=>rfl
 |28,_=>rfl
 |29,_=>rfl
 |30,_=>rfl
 |31,_=>rfl
 |n+32,h=>absurd h (by omega)
theorem kcells_set (C:Nat->Nat):∀ {l:Nat},l<32->(kcells C).setIfInBounds l (.int .i64 ((C l+1:Nat):Int))=kcells (up1 C l)
 |0,_=>rfl
 |1,_=>rfl
 |2,_=>rfl
 |3,_=>rfl
 |4,_=>rfl
 |5,_=>rfl
 |6,_=>rfl
 |7,_=>rfl
 |8,_=>rfl
 |9,_=>rfl
 |10,_=>rfl
 |11,_=>rfl
 |12,_=>rfl
 |13,_=>rfl
 |14,_=>rfl
 |15,_=>rfl
 |16,_=>rfl
 |17,_=>rfl
 |18,_=>rfl
 |19,_=>rfl
 |20,_=>rfl
 |21,_=>rfl
 |22,_=>rfl
 |23,_=>rfl
 |24,_=>rfl
 |25,_=>rfl
 |26,_=>rfl
 |27,_=>rfl
 |28,_=>rfl
 |29,_=>rfl
 |30,_=>rfl
 |31,_=>rfl
 |n+32,h=>absurd h (by omega)
theorem kone (C:Nat->Nat):(kcells C).all (·.oneCell')=true:=by simp [kcells,Value.oneCell']
def KBox (w:World) (g:Nat) (C:Nat->Nat):Prop:=w.heap[g]? =some (.cells (kcells C) 201)
section
variable {w w' : World} {g : Nat} {C : Nat → Nat}
theorem KBox.lt (h:KBox w g C):g<w.heap.size:=(Array.getElem?_eq_some_iff.1 h).1
theorem KBox.cell (h:KBox w g C) {l:Nat} (hl:l<32):w.cell? ⟨g,l,none⟩=some (.int .i64 (C l)):=
 (cell_of_row _ _ l _ _ (0,0) h).trans (kcell_at C hl)
theorem KBox.frozen (h:KBox w g C) (l:Nat):w.frozen? ⟨g,l,none⟩=false:=by
 unfold World.frozen?;rw [show w.heap[g]? =_ from h]
 simp
theorem KBox.set (h:KBox w g C) {l:Nat} (hl:l<32):KBox (w.setCell ⟨g,l,none⟩ (.int .i64 ((C l:Int)+1))) g (up1 C l):=by
 show KBox (w.setCell ⟨g,l,none⟩ (.int .i64 ((C l+1:Nat):Int))) g (up1 C l)
 unfold KBox;rw [heap_setCell_same w g l _ _ _ h,<-kcells_set C hl]
theorem KBox.below {B:Nat} (h:KBox w g C) (hg:g<B) (hb:Below B w w'):KBox w' g C:=(hb.block g hg).trans h
theorem KBox.other {g' k:Nat} {v:Value} (h:KBox w g C) (hne:g≠g'):KBox (w.setCell ⟨g',k,none⟩ v) g C:=(heap_setCell_other w _ g v hne).trans h
theorem KBox.stored {C':Nat->Nat} (h:KBox w g C):KBox (w.setRow g (kcells C')) g C':=setRow_heap w g _ _ _ _ h
end
theorem kinfo (C:Nat->Nat):(Tryz.prog.info? 201).map (·.size)=some (kcells C).size:=by rw [kcells_size];kernel_rfl
def kzero:Array Value:= #[.int .i64 0,.int .i64 0,.int .i64 0,.int .i64 0,.int .i64 0,.int .i64 0,.int .i64 0,.int .i64 0,.int .i64 0,.int .i64 0,.int .i64 0,.int .i64 0,.int .i64 0,.int .i64 0,.int .i64 0,.int .i64 0,.int .i64 0,.int .i64 0,.int .i64 0,.int .i64 0,.int .i64 0,.int .i64 0,.int .i64 0,.int .i64 0,.int .i64 0,.int .i64 0,.int .i64 0,.int .i64 0,.int .i64 0,.int .i64 0,.int .i64 0,.int .i64 0]
theorem kzero_is:kzero=kcells (fun _=>0):=rfl
def kstart (w:World):World:=(w.alloc (.cells kzero 201)).alloc (.cells kzero 201)
theorem kstart_facts (w:World):KBox (kstart w) (w.heap.size+1) (fun _=>0)/\KBox (kstart w) w.heap.size (fun _=>0)/\Below w.heap.size w (kstart w):=by
 unfold kstart;rw [kzero_is];refine ⟨?_,?_,((Below.refl _ _).alloc (Nat.le_refl _) _).alloc (by simp) _⟩
 ·have:=heap_alloc_new (w.alloc (Obj.cells (kcells (fun _=>0)) 201)) (.cells (kcells (fun _=>0)) 201);simp only [World.size_alloc] at this;exact this
 ·exact (heap_alloc_old _ _ (by simp)).trans (heap_alloc_new w _)
set_option maxHeartbeats 1000000 in
theorem countsOf_any (A:Option Addr) (c n B:Nat) (xs:List Int) (v:Nat->Nat) (w:World) (h:Rd w B A n xs) (hB:B<=w.heap.size) (hn:n<=4) (hv:Hid (∀ k,k<n->nth xs k=(v k:Nat)/\v k<32)):
 Calls Tryz.prog 197 #[.slice A n c] w fun e w'=>e=.returned (.agg (kcells fun x=>cN v x n))/\Below w.heap.size w w':=by
 have Hi:=Lib.hid (fun C=>kinfo C);have Hone:=Lib.hid (fun C=>kone C);obtain ⟨hx0,hy0,hb0⟩:=kstart_facts w;obtain ⟨w0,hw0⟩:∃ w0,kstart w=w0:=⟨_,rfl⟩;rw [hw0] at hx0 hy0 hb0;have Hw:=Lib.hid (show (w.alloc (.cells #[.int .i64 0,.int .i64 0,.int .i64 0,.int .i64 0,.int .i64 0,.int .i64 0,.int .i64 0,.int .i64 0,.int .i64 0,.int .i64 0,.int .i64 0,.int .i64 0,.int .i64 0,.int .i64 0,.int .i64 0,.int .i64 0,.int .i64 0,.int .i64 0,.int .i64 0,.int .i64 0,.int .i64 0,.int .i64 0,.int .i64 0,.int .i64 0,.int .i64 0,.int .i64 0,.int .i64 0,.int .i64 0,.int .i64 0,.int .i64 0,.int .i64 0,.int .i64 0] 201)).alloc (.cells #[.int .i64 0,.int .i64 0,.int .i64 0,.int .i64 0,.int .i64 0,.int .i64 0,.int .i64 0,.int .i64 0,.int .i64 0,.int .i64 0,.int .i64 0,.int .i64 0,.int .i64 0,.int .i64 0,.int .i64 0,.int .i64 0,.int .i64 0,.int .i64 0,.int .i64 0,.int .i64 0,.int .i64 0,.int .i64 0,.int .i64 0,.int .i64 0,.int .i64 0,.int .i64 0,.int .i64 0,.int .i64 0,.int .i64 0,.int .i64 0,.int .i64 0,.int .i64 0] 201)=w0 from hw0)
 clear hw0
 go_enter Tryz.func197,Tryz.ntmps197
 go_wp2
 rw [Hw.out];clear Hw
 go_loopw [8] (fun i wr=>∃ k:Nat,k<=n/\i=.int .i64 k/\Hid (KBox wr (w.heap.size+1) (fun x=>cN v x k))/\Hid (KBox wr w.heap.size (fun _=>0))/\Below w.heap.size w wr) (fun i _=>n-(intOf i).toNat)
 case atStart=>exact ⟨0,Nat.zero_le _,rfl,Lib.hid hx0,Lib.hid hy0,hb0⟩
 case round=>
  obtain ⟨k,hk,rfl,hx,hy,hb⟩:=hrel
  by_cases hlt:k<n
  ·obtain ⟨b,off,rfl,hbB,hck⟩:=(h.below (hb.mono hB)).at_ hlt;obtain ⟨e1,e2⟩:=hv.out k hlt;rw [e1] at hck;obtain ⟨u,hu⟩:∃ u,v k=u:=⟨_,rfl⟩;have hstep:=Lib.hid (cN_up v k);rw [hu] at hck e2 hstep;have hl:=cN_le v u k;obtain ⟨q,hq⟩:∃ q,cN v u k=q:=⟨_,rfl⟩;rw [hq] at hl;have hk1:=hx.out.cell e2;have hf1:=hx.out.frozen u;have hs:=hx.out.set e2;simp only [hq] at hk1 hs;have hs':=Lib.hid hs;have huI:(u:Int)<32:=(by omega);clear hs hu hq e1
   go_wp2
   go_roundw
   case rel=>exact ⟨k+1,by omega,by go_num,Lib.hid (by rw [hstep.out];exact hs'.out),Lib.hid (hy.out.other (by omega)),hb.setCell (p:=(⟨w.heap.size+1,u,none⟩:Addr)) (by simp) _⟩
   case measure=>simp [intOf];omega
  ·obtain rfl:k=n:=by omega
   have hxf:=Lib.hid (KBox.stored (C':=fun x=>cN v x k) hy.out);have hBe:=setRow_below (g:=w.heap.size) (cs:=kcells (fun x=>cN v x k)) hb (Nat.le_refl _)
   go_wp2_with (first|(refine wpList_load_row rfl 201 _ rfl (w.heap.size+1) rfl 201 (kcells (fun x=>cN v x k)) (0,0) _ hx.out Tryz.underlying201 rfl (Hi.out _) ?_)|(refine wpList_store_row rfl 201 _ _ rfl w.heap.size (kcells (fun x=>cN v x k)) rfl rfl 201 (kcells (fun _=>0)) hy.out (Hi.out _) rfl (Hone.out _) ?_))
   refine bodyPost_ret (v:=.agg (kcells (fun x=>cN v x k))) (results_cell_row (by rfl) _ _ w.heap.size 201 _ (0,0) _ rfl hxf.out Tryz.underlying201 rfl (Hi.out _)) rfl ⟨rfl,hBe⟩
theorem kidx (C:Nat->Nat) (w:World):∀ {l:Nat},l<32->(Instr.index 201 (.agg (kcells C)) (.int .i64 ((l:Nat):Int))).run Tryz.prog w=.ok (.int .i64 (C l)) w
 |0,_=>by kernel_rfl
 |1,_=>by kernel_rfl
 |2,_=>by kernel_rfl
 |3,_=>by kernel_rfl
 |4,_=>by kernel_rfl
 |5,_=>by kernel_rfl
 |6,_=>by kernel_rfl
 |7,_=>by kernel_rfl
 |8,_=>by kernel_rfl
 |9,_=>by kernel_rfl
 |10,_=>by kernel_rfl
 |11,_=>by kernel_rfl
 |12,_=>by kernel_rfl
 |13,_=>by kernel_rfl
 |14,_=>by kernel_rfl
 |15,_=>by kernel_rfl
 |16,_=>by kernel_rfl
 |17,_=>by kernel_rfl
 |18,_=>by kernel_rfl
 |19,_=>by kernel_rfl
 |20,_=>by kernel_rfl
 |21,_=>by kernel_rfl
 |22,_=>by kernel_rfl
 |23,_=>by kernel_rfl
 |24,_=>by kernel_rfl
 |25,_=>by kernel_rfl
 |26,_=>by kernel_rfl
 |27,_=>by kernel_rfl
 |28,_=>by kernel_rfl
 |29,_=>by kernel_rfl
 |30,_=>by kernel_rfl
 |31,_=>by kernel_rfl
 |n+32,h=>absurd h (by omega)
theorem kbox_new (w:World) (C:Nat->Nat):KBox (w.alloc (.cells (kcells C) 201)) w.heap.size C:=heap_alloc_new w _
set_option maxHeartbeats 8000000 in
theorem taken_any (C:Nat->Nat) (x:Nat) (w:World) (hC:∀ x,C x<=4):
 Calls Tryz.prog 198 #[.agg (kcells C),.int .i64 x] w fun e w'=>e=.returned (.int .i64 (tkF C x 32:Nat))/\Below w.heap.size w w':=by
 have hx0:=Lib.hid (kbox_new w C);have hb0:Below w.heap.size w (w.alloc (.cells (kcells C) 201)):=(Below.refl _ _).alloc (Nat.le_refl _) _;have Hi:=Lib.hid (kinfo C);have HP:=Lib.hid (fun K w' (h:K<32)=>pairMask_any K h w');have Hidx0:=Lib.hid (fun w' (l:Nat) (h:l<32)=>kidx C w' h);obtain ⟨V,hV⟩:∃ V,V=Value.agg (kcells C):=⟨_,rfl⟩;have Hidx:Hid (∀ (w':World) (l:Nat),l<32->(Instr.index 201 V (.int .i64 ((l:Nat):Int))).run Tryz.prog w'=.ok (.int .i64 (C l)) w'):=Lib.hid (by rw [hV];exact Hidx0.out);have HV:=Lib.hid hV;clear hV Hidx0
 go_enter Tryz.func198,Tryz.ntmps198
 go_wp2_with (refine wpList_load_row rfl 201 _ rfl w.heap.size rfl 201 (kcells C) (0,0) _ hx0.out Tryz.underlying201 rfl Hi.out ?_;rw [<- HV.out])
 go_loopw [5,9] (fun q i wr=>∃ k:Nat,k<=32/\i=.int .i64 k/\q=.int .i64 (tkF C x k:Nat)/\Below w.heap.size w wr) (fun _ i _=>32-(intOf i).toNat)
 case atStart=>exact ⟨0,Nat.zero_le _,rfl,rfl,hb0⟩
 case round=>
  obtain ⟨k,hk,rfl,rfl,hb⟩:=hrel;have hle:=tkF_lt C x k (by omega)
  by_cases hlt:k<32
  ·have hlI:(k:Int)<32:=by omega
   have hix:=Hidx.out wr k hlt;have h4:=hC k;obtain ⟨p,hp⟩:∃ p,tkF C x k=p:=⟨_,rfl⟩;have hor:=i64_or_nat p k (by omega) (by omega);rw [hp] at hle;obtain ⟨q,hq⟩:∃ q,C k=q:=⟨_,rfl⟩;have htk:tkC C x k=(two k&&(decide (2<q)||(q==2&&k != x))):=(by rw [<- hq];rfl);have Hs:=Lib.hid (show tkF C x (k+1)=if (two k&&(decide (2<q)||(q==2&&k != x)))=true then p|||k else p by simp only [tkF];rw [htk,hp]);rw [hq] at h4 hix;rw [hp];clear hp hq htk;cases h2:two k
   ·have Hs':=Lib.hid (show tkF C x (k+1)=p by rw [Hs.out,h2];rfl);clear hor
    go_wp2_with (go_at_call 203;refine (HP.out k _ hlt).mono ?_;rintro e w3 ⟨rfl,rfl⟩;rw [h2])
    go_roundw
    case rel=>exact ⟨k+1,by omega,by go_num,by rw [Hs'.out],hb⟩
    case measure=>simp [intOf];omega
   ·by_cases hq2:2<q
    ·have hI:(2:Int)<(q:Int):=(by omega);have Hs':=Lib.hid (show tkF C x (k+1)=p|||k by rw [Hs.out,h2];simp [hq2]);clear Hs
     go_wp2_with (go_at_call 203;refine (HP.out k _ hlt).mono ?_;rintro e w3 ⟨rfl,rfl⟩;rw [h2])
     go_roundw
     case rel=>exact ⟨k+1,by omega,by go_num,by rw [Hs'.out],hb⟩
     case measure=>simp [intOf];omega
    ·have hI:¬ (2:Int)<(q:Int):=(by omega)
     by_cases hqe:q=2
     ·have hq2I:(q:Int)=2:=(by omega);rw [hq2I] at hix;clear hI hq2I
      by_cases hkx:k=x
      ·have hne:((k:Int) != (x:Int))=false:=(by simp;omega);have Hs':=Lib.hid (show tkF C x (k+1)=p by rw [Hs.out,h2];simp [hq2,hkx]);clear Hs hor hqe hkx hq2
       go_wp2_with (go_at_call 203;refine (HP.out k _ hlt).mono ?_;rintro e w3 ⟨rfl,rfl⟩;rw [h2])
       go_roundw
       case rel=>exact ⟨k+1,by omega,by go_num,by rw [Hs'.out],hb⟩
       case measure=>simp [intOf];omega
      ·have hne:((k:Int) != (x:Int))=true:=(by simp;omega);have Hs':=Lib.hid (show tkF C x (k+1)=p|||k by rw [Hs.out,h2];simp [hqe,hkx]);clear Hs hqe hkx hq2
       go_wp2_with (go_at_call 203;refine (HP.out k _ hlt).mono ?_;rintro e w3 ⟨rfl,rfl⟩;rw [h2])
       go_roundw
       case rel=>exact ⟨k+1,by omega,by go_num,by rw [Hs'.out],hb⟩
       case measure=>simp [intOf];omega
     ·have hq01:(q:Int)=0\/(q:Int)=1:=(by omega);have Hs':=Lib.hid (show tkF C x (k+1)=p by rw [Hs.out,h2];simp [hq2,hqe]);clear Hs hor hI hq2 hqe
      rcases hq01 with e01|e01
      all_goals
       rw [e01] at hix;clear e01
       go_wp2_with (go_at_call 203;refine (HP.out k _ hlt).mono ?_;rintro e w3 ⟨rfl,rfl⟩;rw [h2])
       go_roundw
       case rel=>exact ⟨k+1,by omega,by go_num,by rw [Hs'.out],hb⟩
       case measure=>simp [intOf];omega
  ·obtain rfl:k=32:=by omega
   go_wp2
   go_ret
   exact ⟨rfl,hb⟩
theorem line_in7 {s u:Nat} (hs:s∈[2,3,4]) (hu:u<2*s):∀ j,j<s->∃ q:Nat,lineAt s u j=(q:Int)/\lcN s u j=q/\q<s*s:=by
 intro j hj;have h:=line_at hs hu j hj
 have h0:0<=lineAt s u j:=by
  simp at hs
  by_cases hx:(u:Int)<(s:Int)
  ·rw [lineAt_row hx]
   rcases hs with rfl|rfl|rfl<;>omega
  ·rw [lineAt_col hx]
   rcases hs with rfl|rfl|rfl<;>omega
 exact ⟨(lineAt s u j).toNat,by omega,rfl,h⟩
theorem lineTo_small {s u:Nat} (hs:s∈[2,3,4]) (hu:u<2*s):∀ i,i<s->0<=nth (lineTo s u s) i/\nth (lineTo s u s) i<((s*s:Nat):Int):=fun i hi=>by
 obtain ⟨q,e,_,hq⟩:=line_in7 hs hu i hi;rw [lineTo_nth hi,e];omega
theorem pks_line {m:List Int} {s u:Nat} {S:Int} (hm:mvd m S=true):∀ k,k<s->nth (pks m (lineTo s u s) s) k=(lv m s u k:Nat)/\lv m s u k<32:=fun k hk=>by
 refine ⟨?_,lv_lt hm k⟩;unfold pks;rw [mapTo_nth hk,lineTo_nth hk];exact lv_int hm k
theorem lineCells_line {f:Nat} {s u:Nat} {w:World} (hs:s∈[2,3,4]) (hu:u<2*s) (h:Calls Tryz.prog f #[.int .i64 s,.int .i64 u] w (RetSl w (lineL s u))):
 Calls Tryz.prog f #[.int .i64 s,.int .i64 u] w fun e w''=>∃ A3 c3,e=.returned (.slice A3 s c3)/\Ow w'' w.heap.size A3 s c3 (lineTo s u s)/\Below w.heap.size w w'':=by
 refine h.mono ?_;rintro e w'' ⟨A3,c3,rfl,ho3,hb3⟩
 have e1:lineL s u=lineTo s u s:=by
  have:lineOk s u=true:=by simp [lineOk,inr];simp at hs;omega
  simp [lineL,this]
 rw [e1,lineTo_length] at ho3;rw [e1,lineTo_length];exact ⟨A3,c3,rfl,ho3,hb3⟩
theorem npL_gU {m:List Int} {s:Nat} (hs:s∈[2,3,4]) (hm:mvd m s=true):npL m s=gU m s (2*s):=by
 unfold npL;rw [if_pos hm,Int.toNat_natCast,gU_is hs hm _ (Nat.le_refl _)]
theorem gU_sub {m:List Int} {s:Nat} (hs:s∈[2,3,4]) (hm:mvd m s=true) (u:Nat) (hu:u<=2*s):Sub (gU m s u) m:=by
 rw [gU_is hs hm u hu];exact pU_sub hm u
theorem an_sub32 {x:Int} {y:Nat} (hx:0<=x/\x<=30/\x.tmod 2=0) (hy:y<32):0<=bits .andNot .i64 x y/\bits .andNot .i64 x y<=x/\(bits .andNot .i64 x y).tmod 2=0:=by
 obtain ⟨a,rfl⟩:=Int.eq_ofNat_of_zero_le hx.1;obtain ⟨q1,q2,q3⟩:=an_key a (by omega) y hy;exact ⟨q1,q2,q3 (by have:=hx.2.2;rw [Int.tmod_eq_emod_of_nonneg (by omega)] at this;omega)⟩
theorem gL_sub {m o:List Int} {s u:Nat} {S:Int} {C:Nat->Nat} (hm:mvd m S=true) (h:Sub o m) (k:Nat):Sub (gL m s u C o k) m:=by
 induction k with
 |zero=>exact h
 |succ k ih=>
  simp only [gL]
  exact ih.put fun hk=>by
   obtain ⟨h1,h2⟩:=ih.at_ hm hk;obtain ⟨q1,q2,q3⟩:=an_sub32 h1 (tkF_lt C (lv m s u k) 32 (Nat.le_refl _));exact ⟨q1,by omega,q3⟩
def npG (g q n cc bm om c:Nat) (C:Nat->Nat) (X:Int) (y tk:Nat) (z:Int):Nat->Value->Prop
 |0,v=>v=.slice (some ⟨g,0,none⟩) n cc
 |1,v=>v=.int .i64 q
 |2,v=>v=.pointer (some ⟨g,q,none⟩)
 |3,v=>v=.int .i64 X
 |4,v=>v=.agg (kcells C)
 |5,v=>v=.slice (some ⟨bm,om,none⟩) n c
 |6,v=>v=.int .i64 q
 |7,v=>v=.pointer (some ⟨bm,om+q,none⟩)
 |8,v=>v=.int .i64 y
 |9,v=>v=.int .i64 tk
 |10,v=>v=.int .i64 z
 |11,v=>v=.pointer (some ⟨g,q,none⟩)
 |_,_=>True
theorem kload (C:Nat->Nat) (g:Nat) (w:World) (h:KBox w g C):(Instr.loadAt 201 (.pointer (some ⟨g,0,none⟩))).run Tryz.prog w=.ok (.agg (kcells C)) w:=by
 simp only [Instr.loadAt,Instr.sureAddr,Sem.run_bind,Sem.run_pure,Result.andThen_ok,run_loadVar_row w g 201 201 (kcells C) (0,0) _ h Tryz.underlying201 rfl (kinfo C)]
theorem kput (w:World) (C:Nat->Nat) (W:World) (h:(w.alloc (.cells #[.int .i64 0,.int .i64 0,.int .i64 0,.int .i64 0,.int .i64 0,.int .i64 0,.int .i64 0,.int .i64 0,.int .i64 0,.int .i64 0,.int .i64 0,.int .i64 0,.int .i64 0,.int .i64 0,.int .i64 0,.int .i64 0,.int .i64 0,.int .i64 0,.int .i64 0,.int .i64 0,.int .i64 0,.int .i64 0,.int .i64 0,.int .i64 0,.int .i64 0,.int .i64 0,.int .i64 0,.int .i64 0,.int .i64 0,.int .i64 0,.int .i64 0,.int .i64 0] 201)).setRow w.heap.size (kcells C)=W):KBox W w.heap.size C/\Below w.heap.size w W:=by
 rw [<- h];exact ⟨setRow_heap _ _ _ _ _ _ (heap_alloc_new w (.cells (kcells fun _=>0) 201)),setRow_below ((Below.refl _ _).alloc (Nat.le_refl _) _) (Nat.le_refl _)⟩
theorem kz_new (w:World):(w.alloc (.cells #[.int .i64 0,.int .i64 0,.int .i64 0,.int .i64 0,.int .i64 0,.int .i64 0,.int .i64 0,.int .i64 0,.int .i64 0,.int .i64 0,.int .i64 0,.int .i64 0,.int .i64 0,.int .i64 0,.int .i64 0,.int .i64 0,.int .i64 0,.int .i64 0,.int .i64 0,.int .i64 0,.int .i64 0,.int .i64 0,.int .i64 0,.int .i64 0,.int .i64 0,.int .i64 0,.int .i64 0,.int .i64 0,.int .i64 0,.int .i64 0,.int .i64 0,.int .i64 0] 201)).heap[w.heap.size]? =some (.cells (kcells fun _=>0) 201 (0,0)):=heap_alloc_new w (.cells (kcells fun _=>0) 201)
set_option maxHeartbeats 2000000 in
theorem implNarrowPairs (A:Option Addr) (c n B:Nat) (m:List Int) (size:Int) (w:World) (h:Rd w B A n m) (hm64:B64 m) (hBm:B<=w.heap.size) (hm:n<=1099511627776) (hsb: -9223372036854775808<=size/\size<=9223372036854775807):
 Calls Tryz.prog 188 #[.slice A n c,.int .i64 size] w (RetSl w (npL m size)):=by
 have hlen:=Lib.hid h.1;have HV:=Lib.hid (implMasksValid A c n B m size w h hm64 hBm hm hsb);cases hv:mvd m size
 ·have HL:=Lib.hid (show npL m size=[] by simp [npL,hv])
  go_enter Tryz.func188,Tryz.ntmps188
  go_wp2_with (go_at_call 83;refine HV.out.mono ?_;rintro e w1 ⟨rfl,hb1⟩;rw [hv])
  go_ret
  rw [HL.out];exact ⟨_,_,rfl,Ow.nil_ _ _,hb1⟩
 ·obtain ⟨⟨s2,s4⟩,hsq,hn16,_⟩:=mvd_at hv;obtain ⟨s,rfl⟩:=Int.eq_ofNat_of_zero_le (by omega:0<=size)
  have hs:s∈[2,3,4]:=by simp;omega
  have hn:n=s*s:=by rw [<- hlen.out];exact len_of hs hv
  have hn0:0<n:=by
   simp at hs
   rcases hs with rfl|rfl|rfl<;>omega
  have Hs:=Lib.hid hs;have Hn:=Lib.hid hn;have Hv:=Lib.hid hv
  have hs2':2<=s:=by omega
  have hs4':s<=4:=by omega
  have HCl:=Lib.hid (fun w' (hb:Below w.heap.size w w')=>clone_any A n c B m w' (h.below (hb.mono hBm)) (Nat.le_trans hBm hb.size) hn0 hm);have HF:=Lib.hid (npL_gU hs hv);obtain ⟨T,hT⟩:∃ T,T=2*s:=⟨_,rfl⟩;rw [<- hT] at HF;have HT:=Lib.hid hT
  have hT8:T<=8:=by omega
  clear hs hn hT hsq hn16
  go_enter Tryz.func188,Tryz.ntmps188
  go_wp2_with (first
   |(go_at_call 83;refine HV.out.mono ?_;rintro e w1 ⟨rfl,hb1⟩;rw [Hv.out])
   |(go_at_call 70;refine (HCl.out _ hb1).mono ?_;rintro e w2 ⟨Ac,cc,rfl,ho2,hb2⟩;have hb12:=step hb1 hb2))
  have ho3:=ho2.mono hb1.size;obtain ⟨g,rfl,hgl,hgw⟩:=ho3.form hn0
  go_loopw [19] (fun i wr=>∃ u:Nat,u<=T/\i=.int .i64 u/\Ow wr w.heap.size (some ⟨g,0,none⟩) n cc (gU m s u)/\Below w.heap.size w wr) (fun i _=>T-(intOf i).toNat)
  case atStart=>exact ⟨0,Nat.zero_le _,rfl,ho3,hb12⟩
  case round=>
   clear ho2 ho3 hb12 hb1 hb2;obtain ⟨u,hu,rfl,ho,hb⟩:=hrel
   by_cases hlt:u<T
   ·have hltI:(u:Int)<2*(s:Int):=(by have:=HT.out;omega);have hu2:=Lib.hid (show u<2*s by have:=HT.out;omega);have HLc:=Lib.hid (lineCells_line Hs.out hu2.out (implLineCells s u wr ⟨by omega,by omega⟩));have HPk:=Lib.hid (fun w' (hb:Below w.heap.size w w') A3 c3 (ho:Ow w' w.heap.size A3 s c3 (lineTo s u s))=>implPick A c n B m A3 c3 s w'.heap.size (lineTo s u s) w' (h.below (hb.mono hBm)) ho.rd (Nat.le_trans hBm hb.size) (Nat.le_refl _) (by omega) (by rw [Hn.out];exact lineTo_small Hs.out hu2.out));have HCo:=Lib.hid (fun w' A4 c4 (hr:Rd w' w'.heap.size A4 s (pks m (lineTo s u s) s))=>countsOf_any A4 c4 s w'.heap.size _ (lv m s u) w' hr (Nat.le_refl _) (by omega) (Lib.hid (pks_line Hv.out)))
    obtain ⟨C,hC⟩:∃ C:Nat->Nat,C=fun x=>cN (lv m s u) x s:=⟨_,rfl⟩
    have hC4:=Lib.hid (show ∀ x,C x<=4 by rw [hC];intro x;exact Nat.le_trans (cN_le (lv m s u) x s) hs4');have HG:=Lib.hid (show gU m s (u+1)=gL m s u C (gU m s u) s by rw [hC];rfl);rw [<- hC] at HCo;have Hi:=Lib.hid (kinfo C);have Hone:=Lib.hid (kone C);have Hz:=Lib.hid (fun w'=>kz_new w');have Hpl:=Lib.hid (show (pks m (lineTo s u s) s).length=s from mapTo_length _ _);have hat:=Lib.hid (line_in7 Hs.out hu2.out);rw [<- Hn.out] at hat;have Hsub:=Lib.hid (fun k=>gL_sub (s:=s) (u:=u) (C:=C) Hv.out (gU_sub Hs.out Hv.out u (by have:=hu2.out;omega)) k);clear hC
    go_wp2_with (first
     |(go_at_call 196;refine HLc.out.mono ?_;rintro e w3 ⟨A3,c3,rfl,ho3',hb3⟩;have hb13:=step hb hb3;have ho3:=ho3'.mono hb.size;have ho3g:=ho3'.mono (show g+1<=wr.heap.size from ho.own_hi g rfl);clear ho3';have hoA:=ho.below hb3)
     |(go_at_call 181;refine (HPk.out _ hb13 _ _ ho3).mono ?_;rintro e w4 ⟨A4,c4,rfl,ho4,hb4⟩;rw [Hpl.out] at ho4 ⊢;have hb14:=step hb13 hb4;have hr4:=ho4.rd;have ho34:=ho3g.below hb4;have hoB:=hoA.below hb4)
     |(go_at_call 197;refine (HCo.out _ _ _ hr4).mono ?_;rintro e w5 ⟨rfl,hb5⟩;have hb15:=step hb14 hb5;have ho35:=ho34.below hb5;have hoC:=hoB.below hb5;have hw5:=hb15.size;have hgw5:=hoC.own_hi g rfl)
     |(refine wpList_store_row rfl 201 _ _ rfl w5.heap.size (kcells C) rfl rfl 201 (kcells fun _=>0) (Hz.out w5) Hi.out rfl Hone.out ?_;generalize hW5:World.setRow _ _ _=W5;obtain ⟨hkb0,hbW⟩:=kput w5 C W5 hW5;clear hW5;obtain ⟨gk,hgk⟩:∃ gk,w5.heap.size=gk:=⟨_,rfl⟩;have hkb:=Lib.hid hkb0;clear hkb0;have hb16:=step hb15 hbW;have ho36:=ho35.below hbW;have hoD:=hoC.below hbW;rw [hgk] at hkb ⊢;rw [hgk] at hgw5))
    go_loopw [31] (fun i wr=>∃ k:Nat,k<=s/\i=.int .i64 k/\Ow wr w.heap.size (some ⟨g,0,none⟩) n cc (gL m s u C (gU m s u) k)/\Ow wr (g+1) A3 s c3 (lineTo s u s)/\Hid (KBox wr gk C)/\Below w.heap.size w wr) (fun i _=>s-(intOf i).toNat)
    case atStart=>exact ⟨0,Nat.zero_le _,rfl,hoD,ho36,hkb,hb16⟩
    case round=>
     clear hoD ho36 hkb hb16;obtain ⟨k,hk,rfl,hoN,hoL,hkb,hbN⟩:=hrel
     by_cases hks:k<s
     ·obtain ⟨q,hq,hqc,hqn⟩:=hat.out k hks;obtain ⟨g3,rfl,_,_⟩:=hoL.form (by omega);obtain ⟨hcl,_⟩:=hoL.cell hks;rw [lineTo_nth hks,hq] at hcl;obtain ⟨bm,offm,hA,hbmB,hcm⟩:=(h.below (hbN.mono hBm)).at_ hqn;subst hA;obtain ⟨hcn,hfn⟩:=hoN.cell hqn;have hvq:=lv_int (S:=(s:Int)) (u:=(u:Int)) Hv.out k;rw [hqc] at hvq;rw [hvq] at hcm;have hv32:=lv_lt (S:=(s:Int)) (u:=(u:Int)) Hv.out k;have HTk:=Lib.hid (fun w'=>taken_any C (lv m s u k) w' hC4.out);obtain ⟨X,hX⟩:∃ X,nth (gL m s u C (gU m s u) k) q=X:=⟨_,rfl⟩;obtain ⟨y,hy⟩:∃ y,lv m s u k=y:=⟨_,rfl⟩
      obtain ⟨tk,htk⟩:∃ tk,tkF C y 32=tk:=⟨_,rfl⟩;obtain ⟨z,hz⟩:∃ z,bits .andNot .i64 X (tk:Int)=z:=⟨_,rfl⟩;have HG1:=Lib.hid (show gL m s u C (gU m s u) (k+1)=(gL m s u C (gU m s u) k).set q z by simp only [gL];rw [hqc,hX,hy,htk,hz]);rw [hX] at hcn;rw [hy] at hcm hv32 HTk;rw [htk] at HTk;have Hz':=Lib.hid hz;have hgN:=hoN.own_hi g rfl;have hgkN:=hkb.out.lt;have hqI:(q:Int)<(n:Int):=(by omega);have hbmN:bm<wr.heap.size:=Nat.lt_of_lt_of_le hbmB (Nat.le_trans hBm hbN.size);have HoN:=Lib.hid hoN;have HoL:=Lib.hid hoL;clear hX hy htk hz hoN hoL hvq
      go_wp2
      refine wp_region_dsS [35,36,37,38,39,40,41,42,43,44,45,46] (fun j v _=>npG g q n cc bm offm c C X y tk z j v) (fun w1 w2=>Below w1.heap.size w1 w2) (fun _ _ _=>True) (fun _ _=>True) (fun _=>trivial) (below_drewN (Below.refl _ _) 1) (fun _ _ h h'=>step h h') (by kernel_rfl) (by kernel_rfl) (by simp) (fun _ _ _ _ _ _ _ _ h=>h) ?step ?last
      case step=>
       intro i o a w' K D hD hcl2 hi hoo hrel hfr hpre hC hK;have e0:a.eval (.tmp 0)=.slice (some ⟨bm,offm,none⟩) n c:=hfr 0 (by simp);have e5:a.eval (.tmp 5)=.slice (some ⟨g,0,none⟩) n cc:=hfr 5 (by simp);have e8:a.eval (.tmp 8)=.pointer (some ⟨gk,0,none⟩):=hfr 8 (by simp);have e10:a.eval (.tmp 10)=.int .i64 q:=hfr 10 (by simp)
       have hkeep:∀ (v:Value),npG g q n cc bm offm c C X y tk z i v->K (a.put o.dst v) w':=fun v hv=>hK v w' (Below.refl _ _) trivial (fun j _ _ h=>h) hv
       have hkw:KBox w' gk C:=hkb.out.below hgkN hrel;have hcn':w'.cell? ⟨g,q,none⟩=some (.int .i64 X):=(hrel.cell (p:=⟨g,q,none⟩) hgN).trans hcn;have hcm':w'.cell? ⟨bm,offm+q,none⟩=some (.int .i64 y):=(hrel.cell (p:=⟨bm,offm+q,none⟩) hbmN).trans hcm;have hi12:i<12:=hi;have:i=0\/i=1\/i=2\/i=3\/i=4\/i=5\/i=6\/i=7\/i=8\/i=9\/i=10\/i=11:=(by omega)
       rcases this with rfl|rfl|rfl|rfl|rfl|rfl|rfl|rfl|rfl|rfl|rfl|rfl
       all_goals
        simp only [List.getElem?_toArray,List.getElem?_cons_zero,List.getElem?_cons_succ,Option.some.injEq] at hoo;subst hoo
       ·refine oper_val (v:=.slice (some ⟨g,0,none⟩) n cc) (w':=w') ?_ (hkeep _ rfl);unfold execOp;simp only [e5]
        go_simp
       ·refine oper_val (v:=.int .i64 q) (w':=w') ?_ (hkeep _ rfl);unfold execOp;simp only [e10]
        go_simp
       ·have p0:a.eval (.tmp 35)=.slice (some ⟨g,0,none⟩) n cc:=hpre ⟨0,.data⟩ (by simp) rfl;have p1:a.eval (.tmp 36)=.int .i64 q:=hpre ⟨1,.data⟩ (by simp) rfl;refine oper_val (v:=.pointer (some ⟨g,q,none⟩)) (w':=w') ?_ (hkeep _ rfl);unfold execOp;simp only [p0,p1]
        go_simp
       ·have p2:a.eval (.tmp 37)=.pointer (some ⟨g,q,none⟩):=hpre ⟨2,.data⟩ (by simp) rfl;refine oper_val (v:=.int .i64 X) (w':=w') ?_ (hkeep _ rfl);unfold execOp;simp only [p2]
        go_simp
       ·refine oper_val (v:=.agg (kcells C)) (w':=w') ?_ (hkeep _ rfl);unfold execOp;simp only [e8,kload C gk w' hkw,Sem.run_bind,Result.andThen_ok,Sem.run_pure]
       ·refine oper_val (v:=.slice (some ⟨bm,offm,none⟩) n c) (w':=w') ?_ (hkeep _ rfl);unfold execOp;simp only [e0]
        go_simp
       ·refine oper_val (v:=.int .i64 q) (w':=w') ?_ (hkeep _ rfl);unfold execOp;simp only [e10]
        go_simp
       ·have p0:a.eval (.tmp 40)=.slice (some ⟨bm,offm,none⟩) n c:=hpre ⟨5,.data⟩ (by simp) rfl;have p1:a.eval (.tmp 41)=.int .i64 q:=hpre ⟨6,.data⟩ (by simp) rfl;refine oper_val (v:=.pointer (some ⟨bm,offm+q,none⟩)) (w':=w') ?_ (hkeep _ rfl);unfold execOp;simp only [p0,p1]
        go_simp
       ·have p2:a.eval (.tmp 42)=.pointer (some ⟨bm,offm+q,none⟩):=hpre ⟨7,.data⟩ (by simp) rfl;refine oper_val (v:=.int .i64 y) (w':=w') ?_ (hkeep _ rfl);unfold execOp;simp only [p2]
        go_simp
       ·have p0:a.eval (.tmp 39)=.agg (kcells C):=hpre ⟨4,.data⟩ (by simp) rfl;have p1:a.eval (.tmp 43)=.int .i64 y:=hpre ⟨8,.data⟩ (by simp) rfl;refine oper_call (f:=198) (args:= #[.agg (kcells C),.int .i64 y]) ?_ (HTk.out w') ?_
        ·unfold execOp
         go_simp
         exact ⟨by simpa [Act.eval] using p0,by simpa [Act.eval] using p1⟩
        ·rintro e w8 ⟨rfl,hb8⟩;exact ⟨_,rfl,hK _ w8 hb8 trivial (fun j _ _ h=>h) rfl⟩
       ·have p0:a.eval (.tmp 38)=.int .i64 X:=hpre ⟨3,.data⟩ (by simp) rfl;have p1:a.eval (.tmp 44)=.int .i64 tk:=hpre ⟨9,.data⟩ (by simp) rfl;refine oper_val (v:=.int .i64 z) (w':=w') ?_ (hkeep _ rfl);unfold execOp;simp only [p0,p1]
        go_simp
        exact Hz'.out
       ·have p0:a.eval (.tmp 35)=.slice (some ⟨g,0,none⟩) n cc:=hpre ⟨0,.data⟩ (by simp) rfl;have p1:a.eval (.tmp 36)=.int .i64 q:=hpre ⟨1,.data⟩ (by simp) rfl;refine oper_val (v:=.pointer (some ⟨g,q,none⟩)) (w':=w') ?_ (hkeep _ rfl);unfold execOp;simp only [p0,p1]
        go_simp
      case last=>
       intro o a w5 hoo hrel hdef htm hfr hpre;simp only [List.length_cons,List.length_nil,Nat.reduceAdd,List.getElem?_toArray,List.getElem?_cons_zero,List.getElem?_cons_succ,Option.some.injEq] at hoo;subst hoo;have g0:a.tmps.getD 35 undef=.slice (some ⟨g,0,none⟩) n cc:=hpre 0 (by simp);have g1:a.tmps.getD 36 undef=.int .i64 q:=hpre 1 (by simp);have g2:a.tmps.getD 37 undef=.pointer (some ⟨g,q,none⟩):=hpre 2 (by simp);have g3:a.tmps.getD 38 undef=.int .i64 X:=hpre 3 (by simp);have g4:a.tmps.getD 39 undef=.agg (kcells C):=hpre 4 (by simp);have g5:a.tmps.getD 40 undef=.slice (some ⟨bm,offm,none⟩) n c:=hpre 5 (by simp)
       have g6:a.tmps.getD 41 undef=.int .i64 q:=hpre 6 (by simp);have g7:a.tmps.getD 42 undef=.pointer (some ⟨bm,offm+q,none⟩):=hpre 7 (by simp);have g8:a.tmps.getD 43 undef=.int .i64 y:=hpre 8 (by simp);have g9:a.tmps.getD 44 undef=.int .i64 tk:=hpre 9 (by simp);have g10:a.tmps.getD 45 undef=.int .i64 z:=hpre 10 (by simp);have g11:a.tmps.getD 46 undef=.pointer (some ⟨g,q,none⟩):=hpre 11 (by simp);have h45:a.eval (.tmp 45)=.int .i64 z:=g10;have h46:a.eval (.tmp 46)=.pointer (some ⟨g,q,none⟩):=g11;have ho5:=HoN.out.below hrel;obtain ⟨hc5,hf5⟩:=ho5.cell hqn;have hop:=Lib.hid (ho5.putN q z);have hb5:=Lib.hid (Below.setCell (p:=(⟨g,q,none⟩:Addr)) (hbN.trans (hrel.mono hbN.size)) hgl (.int .i64 z));have hL5:=Lib.hid (HoL.out.below hrel);have hk5:=Lib.hid (hkb.out.below hgkN hrel);refine ⟨w5.setCell ⟨g,q,none⟩ (.int .i64 z),?_,?_⟩
       ·unfold execOp;simp only [h45,h46]
        go_simp
       ·have key:=htm;simp only [List.foldl_cons,List.foldl_nil,g0,g1,g2,g3,g4,g5,g6,g7,g8,g9,g10,g11,List.setIfInBounds_toArray,List.set_cons_succ,List.set_cons_zero] at key;clear htm hfr hpre g0 g1 g2 g3 g4 g5 g6 g7 g8 g9 g10 g11 h45 h46;obtain ⟨tm,df⟩:=a
        dsimp only at key hdef
        subst key hdef;clear hc5 hf5 ho5
        go_wp2
        go_roundw
        case rel=>exact ⟨k+1,by omega,by go_num,by rw [HG1.out];exact hop.out,hL5.out.far grown_set (fun b hb e=>by have h1:=hL5.out.own_lo b hb;injection e with e;omega),Lib.hid (hk5.out.other (by omega)),hb5.out⟩
        case measure=>simp [intOf];omega
     ·obtain rfl:k=s:=by omega
      go_wp2
      go_roundw
      case rel=>exact ⟨u+1,by omega,by go_num,by rw [HG.out];exact hoN,hbN⟩
      case measure=>simp [intOf];omega
   ·obtain rfl:u=T:=by omega
    have hgeI:¬ (u:Int)<2*(s:Int):=(by have:=HT.out;omega)
    go_wp2
    go_ret
    rw [HF.out];exact retSl_mk ho hb
theorem b64_mvd {m:List Int} {s:Int} (h:mvd m s=true):B64 m:=fun k=>by
 obtain ⟨a,b,_⟩:=mvd_nth h k;omega
theorem tabi:(Tryz.prog.info? 142).map (·.size)=some 21:=by kernel_rfl
theorem tcells_one (F:Nat->Nat) (A:Option Addr) (n c:Nat):(tcells F A n c).all (·.oneCell')=true:=by simp [tcells,Value.oneCell']
set_option maxHeartbeats 2000000 in
theorem narrowedByRules_any (s L Br:Nat) (At:Option Addr) (nt ct Bt:Nat) (rs:List RuleM) (A:Option Addr) (c nm B:Nat) (m:List Int) (w:World) (hTb:TbR w L Bt Br s rs At nt) (hBt:Bt<=w.heap.size) (hBr:Br<=Bt) (h:Rd w B A nm m) (hBm:B<=w.heap.size) (hs:s∈[2,3,4]) (hm:mvd m s=true) (hr:∀ i,i<nt->rvR s (rat rs i)=true) (hnt:nt<=20):
 Calls Tryz.prog 189 #[.agg #[.int .i64 s,.slice At nt ct],.slice A nm c] w (RetSl w (nrTo s rs m nt)):=by
 have hlen:=Lib.hid h.1;obtain ⟨⟨s2,s4⟩,hsq,hnm16,_⟩:=mvd_at hm;rw [h.1] at hsq hnm16
 have hnm0:0<nm:=by
  simp at hs
  rcases hs with rfl|rfl|rfl<;>omega
 obtain ⟨Wa,hWa⟩:∃ Wa,w.alloc (.cells #[.int .i64 s,.slice At nt ct] 94)=Wa:=⟨_,rfl⟩
 have hba:Below w.heap.size w Wa:=by rw [<- hWa];exact (Below.refl _ _).alloc (Nat.le_refl _) _
 have hsa:Wa.heap.size=w.heap.size+1:=by rw [<- hWa];simp
 have hra:Wa.heap[w.heap.size]? =some (.cells #[.int .i64 s,.slice At nt ct] 94):=by rw [<- hWa];exact heap_alloc_new w _
 have HCl:=Lib.hid (clone_any A nm c B m Wa (h.below (hba.mono hBm)) (by omega) hnm0 (by omega));have HS:=Lib.hid (fun u (hu:u<=nt)=>nrTo_sub (rs:=rs) hm (fun i hi=>hr i (by rw [<- hTb.1];exact hi)) u (by rw [hTb.1];exact hu));have HR:=Lib.hid hr;have Hm:=Lib.hid hm;have Hsq:=Lib.hid hsq;have HTb:=Lib.hid hTb;have hntl:=hTb.1;have HBa:=Lib.hid hba;clear hm hr hsq hTb hba
 go_enter Tryz.func189,Tryz.ntmps189
 go_wp2_with (go_at_call 70;refine HCl.out.mono ?_;rintro e w1 ⟨A1,c1,rfl,ho1,hb1⟩;have hr1:=(hb1.block w.heap.size (by omega)).trans hra;have hc1:=cell_of_row _ _ 1 _ _ (0,0) hr1)
 obtain ⟨g,rfl,hgl,hgw⟩:=ho1.form hnm0;have HB1:=Lib.hid (step HBa.out hb1);have hb1s:=hb1.size;clear hr1 hc1 hra hb1
 go_loopw [13] (fun i wr=>∃ u:Nat,u<=nt/\i=.int .i64 u/\Ow wr Wa.heap.size (some ⟨g,0,none⟩) nm c1 (nrTo s rs m u)/\w1.grownBy wr (some g)) (fun i _=>nt-(intOf i).toNat)
 case atStart=>exact ⟨0,Nat.zero_le _,rfl,ho1,World.grownBy.refl _ _⟩
 case round=>
  clear ho1;obtain ⟨u,hu,rfl,ho,hg⟩:=hrel
  by_cases hlt:u<nt
  ·have hltI:(u:Int)<(nt:Int):=by omega
   have hbr:Below w.heap.size w wr:=HB1.out.grown hg HB1.out.size (fun k e=>by have:=Option.some.inj e;omega);obtain ⟨b,rfl,_,hbB,hcc⟩:=(HTb.out.below (hbr.mono hBt) hBr).2 (by omega);obtain ⟨A',C',hrg,hrd⟩:=hcc u hlt;have hv0:=HR.out u hlt;obtain ⟨_,⟨hn1,hn4⟩,_,hxin⟩:=rv_facts rfl hv0;have hmu:=(HS.out u hu).mvd_ Hm.out;have HNx:Hid (nrTo s rs m (u+1)=nrIn (rat rs u).xs (rmL (rat rs u).k (rat rs u).xs (rat rs u).v (nrTo s rs m u) s) (nrTo s rs m u) (rat rs u).xs.length):=Lib.hid rfl
   have hf:=fun j (hj:j<(rat rs u).xs.length)=>nm_rm hs hv0 hmu j hj
   have hF64:=rtF_lt s (rat rs u)
   have hms:∀ i,i<nm->0<=nth (nrTo s rs m u) i/\nth (nrTo s rs m u) i<32:=fun i _=>by obtain ⟨a,b,_⟩:=mvd_nth hmu i;omega
   obtain ⟨F,hF⟩:∃ F,F=rtF s (rat rs u):=⟨_,rfl⟩;obtain ⟨f,hff⟩:∃ f,f=rmL (rat rs u).k (rat rs u).xs (rat rs u).v (nrTo s rs m u) s:=⟨_,rfl⟩;obtain ⟨xs,hxs⟩:∃ xs,xs=(rat rs u).xs:=⟨_,rfl⟩;rw [<- hff] at HNx hf;rw [<- hF] at hf hF64 hrg;rw [<- hxs] at HNx hf hrd hrg hn1 hn4 hxin;obtain ⟨l,hl⟩:∃ l,l=xs.length:=⟨_,rfl⟩;rw [<- hl] at HNx hf hrd hrg hn1 hn4 hxin;obtain ⟨o,hoo⟩:∃ o,o=nrTo s rs m u:=⟨_,rfl⟩;rw [<- hoo] at HNx hf hms ho
   have hin:∀ i,i<l->∃ q:Nat,nth xs i=(q:Int)/\q<nm:=fun i hi=>by
    obtain ⟨y0,y1⟩:=hxin i hi;obtain ⟨q,hq⟩:=Int.eq_ofNat_of_zero_le y0;exact ⟨q,hq,by have:=Hsq.out;omega⟩
   obtain ⟨W2,hW2⟩:∃ W2,(wr.alloc (.cells zeroTab 142)).setRow wr.heap.size (tcells F A' l C')=W2:=⟨_,rfl⟩;have hr2:W2.heap[wr.heap.size]? =some (.cells (tcells F A' l C') 142):=(by rw [<- hW2];exact setRow_heap (w:=wr.alloc (.cells zeroTab 142)) wr.heap.size _ _ _ _ (heap_alloc_new wr _));have hbW:Below wr.heap.size wr W2:=(by rw [<- hW2];exact ((Below.refl _ _).alloc (Nat.le_refl _) _).grown grown_sr0 (by simp) (fun k e=>by have:=Option.some.inj e;omega));have hBt2:Bt<=wr.heap.size:=Nat.le_trans hBt hbr.size;have hgr:=hg.size;have HNa:=Lib.hid (narrow_any F A' C' l Br xs f g c1 nm Wa.heap.size o W2 (hrd.below (hbW.mono (Nat.le_trans hBr hBt2))) (by omega) (ho.below hbW) hn4 hF64 hin hms hf)
   have hg2:w1.grownBy W2 (some g):=hg.trans (grown_of_below6 hbW);subst hW2;have HHr2:=Lib.hid hr2;have Hg2:=Lib.hid hg2;have HX:Hid (∀ w5,Ow w5 Wa.heap.size (some ⟨g,0,none⟩) nm c1 (nrIn xs f o l)->Ow w5 Wa.heap.size (some ⟨g,0,none⟩) nm c1 (nrTo s rs m (u+1))):=Lib.hid (fun w5 h5=>by rw [HNx.out];exact h5);have Hlt:=Lib.hid hlt;have Hz:=Lib.hid (heap_alloc_new wr (.cells zeroTab 142));clear HNx hf hF64 hms hin hF hff hxs hl hoo hrd hv0 hmu hxin hbr hbW hr2 hg2 ho
   go_wp2_with (first
    |(refine wpList_load_mid rfl 142 _ rfl b (u*21) rfl (tcells F A' l C').toList _ hrg Tryz.underlying142 rfl tabi ?_)
    |(refine wpList_store_row rfl 142 _ _ rfl wr.heap.size (tcells F A' l C') rfl rfl 142 zeroTab Hz.out tabi rfl (tcells_one F A' l C') ?_)
    |(refine wpList_load_row rfl 142 _ rfl wr.heap.size rfl 142 (tcells F A' l C') (0,0) _ HHr2.out Tryz.underlying142 rfl tabi ?_)
    |(go_at_call 199;refine HNa.out.mono ?_;rintro e w5 ⟨rfl,ho5,hg5⟩))
   go_roundw
   case rel=>exact ⟨u+1,Hlt.out,by go_num,HX.out _ ho5,Hg2.out.trans hg5⟩
   case measure=>have:=Hlt.out;simp [intOf];omega
  ·obtain rfl:u=nt:=by omega
   go_wp2
   go_ret
   exact retSl_mk (ho.mono (by omega)) (HB1.out.grown hg HB1.out.size (fun k e=>by have:=Option.some.inj e;omega))
set_option maxHeartbeats 1000000 in
theorem round_any (s L Br:Nat) (At:Option Addr) (nt ct Bt:Nat) (gi:List Int) (rs:List RuleM) (A:Option Addr) (c nm B:Nat) (m:List Int) (t:Int) (w:World) (hTb:t=4->TbR w L Bt Br s rs At nt) (hBt:Bt<=w.heap.size) (hBr:Br<=Bt) (h:Rd w B A nm m) (hBm:B<=w.heap.size) (hT:Tz w) (hs:s∈[2,3,4]) (hv:pvB s gi rs=true) (hm:mvd m s=true) (t1:1<=t) (t4:t<=4):
 Calls Tryz.prog 169 #[.agg #[.int .i64 s,.slice At nt ct],.slice A nm c,.int .i64 t] w (RetSl w (nbL s gi rs m t)):=by
 have hb64:=b64_mvd hm;obtain ⟨⟨s2,s4⟩,_,hnm16,_⟩:=mvd_at hm;rw [h.1] at hnm16;obtain ⟨Wa,hWa⟩:∃ Wa,w.alloc (.cells #[.int .i64 s,.slice At nt ct] 94)=Wa:=⟨_,rfl⟩
 have hba:Below w.heap.size w Wa:=by rw [<- hWa];exact (Below.refl _ _).alloc (Nat.le_refl _) _
 have hra:Wa.heap[w.heap.size]? =some (.cells #[.int .i64 s,.slice At nt ct] 94):=by rw [<- hWa];exact heap_alloc_new w _
 have c0:=cell_of_row _ _ 0 _ _ (0,0) hra;have hBa:=Nat.le_trans hBm hba.size;have hRa:=h.below (hba.mono hBm);have hTa:=hT.below hT.lt hba
 have ht:t=1\/t=2\/t=3\/t=4:=by omega
 have Hi:=Lib.hid nar_info
 rcases ht with rfl|rfl|rfl|rfl
 ·have HL:=Lib.hid (show nbL s gi rs m 1=nsL m s nm by unfold nbL;rw [hv,hm,Bool.true_and,if_pos rfl,if_pos rfl,h.1]);have HC:=Lib.hid (implNarrowSingles A c nm B m s Wa hRa hb64 hTa hBa (by omega) (by omega));clear hTb hm hv h hb64
  go_enter Tryz.func169,Tryz.ntmps169
  go_wp2_with (go_at_call 186;refine HC.out.mono ?_;rintro e w1 ⟨A1,c1,rfl,ho1,hb1⟩)
  go_ret
  rw [HL.out];exact ⟨A1,c1,rfl,ho1.mono hba.size,step hba hb1⟩
 ·have HL:=Lib.hid (show nbL s gi rs m 2=nhL m s by unfold nbL;rw [hv,hm,Bool.true_and,if_pos rfl,if_neg (by omega),if_pos rfl]);have HC:=Lib.hid (implNarrowHidden A c nm B m s Wa hRa hb64 hBa (by omega) (by omega));clear hTb hm hv h hb64
  go_enter Tryz.func169,Tryz.ntmps169
  go_wp2_with (go_at_call 187;refine HC.out.mono ?_;rintro e w1 ⟨A1,c1,rfl,ho1,hb1⟩)
  go_ret
  rw [HL.out];exact ⟨A1,c1,rfl,ho1.mono hba.size,step hba hb1⟩
 ·have HL:=Lib.hid (show nbL s gi rs m 3=npL m s by unfold nbL;rw [hv,hm,Bool.true_and,if_pos rfl,if_neg (by omega),if_neg (by omega),if_pos rfl]);have HC:=Lib.hid (implNarrowPairs A c nm B m s Wa hRa hb64 hBa (by omega) (by omega));clear hTb hm hv h hb64
  go_enter Tryz.func169,Tryz.ntmps169
  go_wp2_with (go_at_call 188;refine HC.out.mono ?_;rintro e w1 ⟨A1,c1,rfl,ho1,hb1⟩)
  go_ret
  rw [HL.out];exact ⟨A1,c1,rfl,ho1.mono hba.size,step hba hb1⟩
 ·have hTb:=hTb rfl;have HL:=Lib.hid (show nbL s gi rs m 4=nrTo s rs m nt by unfold nbL nrL;rw [hv,hm,Bool.true_and,if_pos rfl,if_neg (by omega),if_neg (by omega),if_neg (by omega),if_pos rfl,if_pos rfl,hTb.1]);have hall:=(pv_gv hv).2.2;have HC:=Lib.hid (narrowedByRules_any s L Br At nt ct Bt rs A c nm B m Wa (hTb.below (hba.mono hBt) hBr) (Nat.le_trans hBt hba.size) hBr hRa hBa hs hm (fun i hi=>hall i (by rw [hTb.1];exact hi)) (by rw [<- hTb.1];exact (pv_gv hv).2.1));clear hTb hm hv h hb64 hall
  go_enter Tryz.func169,Tryz.ntmps169
  go_wp2_with (first
   |(refine wpList_load_row rfl 94 _ rfl w.heap.size rfl 94 #[.int .i64 s,.slice At nt ct] (0,0) _ hra Tryz.underlying94 rfl (Hi.out _ _) ?_)
   |(go_at_call 189;refine HC.out.mono ?_;rintro e w1 ⟨A1,c1,rfl,ho1,hb1⟩))
  go_ret
  rw [HL.out];exact ⟨A1,c1,rfl,ho1.mono hba.size,step hba hb1⟩
def NextPost (w:World) (nm:Nat):Option (List Int×Nat)->Ending->World->Prop
 |none,e,w'=>e=.returned (.tuple #[.slice none 0 0,.int .i64 0])/\Below w.heap.size w w'
 |some q,e,w'=>(∃ b c,e=.returned (.tuple #[.slice (some ⟨b,0,none⟩) nm c,.int .i64 (q.2:Nat)])/\w.heap.size<=b/\Ow w' w.heap.size (some ⟨b,0,none⟩) nm c q.1)/\Below w.heap.size w w'
set_option maxHeartbeats 2000000 in
theorem next_any (s L Br:Nat) (At:Option Addr) (nt ct Bt:Nat) (gi:List Int) (rs:List RuleM) (A:Option Addr) (c nm B:Nat) (m:List Int) (most:Nat) (w:World) (hTb:4<=most->TbR w L Bt Br s rs At nt) (hBt:Bt<=w.heap.size) (hBr:Br<=Bt) (h:Rd w B A nm m) (hBm:B<=w.heap.size) (hT:Tz w) (hs:s∈[2,3,4]) (hv:pvB s gi rs=true) (hm:mvd m s=true) (h4:most<=4):
 Calls Tryz.prog 132 #[.agg #[.int .i64 s,.slice At nt ct],.slice A nm c,.int .i64 most] w (NextPost w nm (ntF s gi rs m most 1)):=by
 obtain ⟨_,hsq,hnm16,_⟩:=mvd_at hm;rw [h.1] at hsq hnm16
 have hnm0:0<nm:=by
  simp at hs
  rcases hs with rfl|rfl|rfl<;>omega
 obtain ⟨Wa,hWa⟩:∃ Wa,w.alloc (.cells #[.int .i64 s,.slice At nt ct] 94)=Wa:=⟨_,rfl⟩
 have hba:Below w.heap.size w Wa:=by rw [<- hWa];exact (Below.refl _ _).alloc (Nat.le_refl _) _
 have hra:Wa.heap[w.heap.size]? =some (.cells #[.int .i64 s,.slice At nt ct] 94):=by rw [<- hWa];exact heap_alloc_new w _
 have hsa:Wa.heap.size=w.heap.size+1:=by rw [<- hWa];simp
 have Hi:=Lib.hid nar_info;have HRo:=Lib.hid (fun (t:Int) (w':World) (hb:Below w.heap.size w w') (t1:1<=t) (t4:t<=most)=>round_any s L Br At nt ct Bt gi rs A c nm B m t w' (fun e=>(hTb (by omega)).below (hb.mono hBt) hBr) (Nat.le_trans hBt hb.size) hBr (h.below (hb.mono hBm)) (Nat.le_trans hBm hb.size) (hT.below hT.lt hb) hs hv hm t1 (by omega));have HRd:=Lib.hid (fun (w':World) (hb:Below w.heap.size w w')=>h.below (hb.mono hBm));have HSb:=Lib.hid (fun (t:Int) (t1:1<=t) (t4:t<=most)=>(nb_sub (rs:=rs) (gi:=gi) hv hm t1 (show t<=4 by omega)).1.trans h.1)
 have HBa:=Lib.hid hba;have HRa:=Lib.hid hra;clear hTb h hT hv hm hba hra hsq
 go_enter Tryz.func132,Tryz.ntmps132
 go_wp2
 go_loopw [8] (fun i wr=>∃ t:Nat,1<=t/\t<=most+1/\i=.int .i64 t/\(∀ v,1<=v->v<t->nbL s gi rs m v=m)/\Below Wa.heap.size Wa wr) (fun i _=>most+1-(intOf i).toNat)
 case atStart=>exact ⟨1,by omega,by omega,rfl,fun v h1 h2=>absurd h2 (by omega),Below.refl _ _⟩
 case round=>
  obtain ⟨t,t1,t5,rfl,hno,hb⟩:=hrel;have hbw:=HBa.out.trans (hb.mono (by omega))
  by_cases hlt:t<=most
  ·have hltI:(t:Int)<=(most:Int):=by omega
   have hrr:=(hb.block w.heap.size (by omega)).trans HRa.out;have HC:=Lib.hid (HRo.out t wr hbw (by omega) hltI);have Hq:=HSb.out t (by omega) hltI;obtain ⟨q,hq⟩:∃ q,q=nbL s gi rs m t:=⟨_,rfl⟩;rw [<- hq] at HC Hq;have Hlq:=Lib.hid Hq;have Hbw:=Lib.hid hbw;have hb':=hb;clear Hq
   by_cases e:q=m
   ·have hsm:same q m=true:=(by rw [e];exact same_refl m)
    have Hno:=Lib.hid (show ∀ v,1<=v->v<t+1->nbL s gi rs m v=m from fun v h1 h2=>by
     by_cases ev:v=t
     ·subst ev;rw [<- hq];exact e
     ·exact hno v h1 (by omega))
    clear e hq hno hbw
    go_wp2_with (first
     |(refine wpList_load_row rfl 94 _ rfl w.heap.size rfl 94 #[.int .i64 s,.slice At nt ct] (0,0) _ hrr Tryz.underlying94 rfl (Hi.out _ _) ?_)
     |(go_at_call 169;refine HC.out.mono ?_;rintro e w1 ⟨A1,c1,rfl,ho1,hb1⟩;have hb01:=step Hbw.out hb1;rw [Hlq.out] at ho1)
     |(rw [Hlq.out];go_at_call 170;refine (equal_any _ _ _ _ _ _ _ _ _ _ _ ho1.rd (HRd.out _ hb01) (by omega)).mono ?_;rintro e w2 ⟨rfl,hb2⟩;rw [hsm]))
    go_roundw
    case rel=>exact ⟨t+1,by omega,by omega,by go_num,Hno.out,(hb'.trans (hb1.mono hb'.size)).trans (hb2.mono (Nat.le_trans hb'.size hb1.size))⟩
    case measure=>simp [intOf];omega
   ·have hsm:same q m=false:=(by simp [same,e]);have HN:=Lib.hid (show ntF s gi rs m most 1=some (q,t) from ntF_at hno (by omega) (by omega) hq e);clear e hq hno hbw
    go_wp2_with (first
     |(refine wpList_load_row rfl 94 _ rfl w.heap.size rfl 94 #[.int .i64 s,.slice At nt ct] (0,0) _ hrr Tryz.underlying94 rfl (Hi.out _ _) ?_)
     |(go_at_call 169;refine HC.out.mono ?_;rintro e w1 ⟨A1,c1,rfl,ho1,hb1⟩;have hb01:=step Hbw.out hb1;rw [Hlq.out] at ho1)
     |(rw [Hlq.out];go_at_call 170;refine (equal_any _ _ _ _ _ _ _ _ _ _ _ ho1.rd (HRd.out _ hb01) (by omega)).mono ?_;rintro e w2 ⟨rfl,hb2⟩;rw [hsm]))
    go_ret2
    rw [HN.out];obtain ⟨b,rfl,hbl,hbs⟩:=ho1.form (by omega);have hsz:=Hbw.out.size;exact ⟨⟨b,c1,rfl,by omega,(ho1.below hb2).mono hsz⟩,step hb01 hb2⟩
  ·obtain rfl:t=most+1:=by omega
   have HN:=Lib.hid (show ntF s gi rs m most 1=none from ntF_of (fun v h1 h2=>hno v h1 (by omega)));have hltI:¬ ((most+1:Nat):Int)<=(most:Int):=(by omega)
   go_wp2
   go_ret2
   rw [HN.out];exact ⟨rfl,hbw⟩
def nvB (s:Int) (gi:List Int) (rs:List RuleM) (m:List Int) (t:Int):Bool:=inr t 1 4&&pvB s gi rs&&mvd m s
theorem techniqueKnown_any (t:Int) (w:World):Calls Tryz.prog 94 #[.int .i64 t] w fun e w'=>e=.returned (.bool (inr t 1 4))/\w=w':=by
 by_cases h1:(1:Int)<=t
 ·by_cases h4:t<=(4:Int)
  ·have hr:=Lib.hid (show inr t 1 4=true by unfold inr;simp;omega)
   go_enter Tryz.func94,Tryz.ntmps94
   go_wp2
   go_ret
   exact ⟨by rw [hr.out];try simp,rfl⟩
  ·have hr:=Lib.hid (show inr t 1 4=false by unfold inr;simp;omega)
   go_enter Tryz.func94,Tryz.ntmps94
   go_wp2
   go_ret
   exact ⟨by rw [hr.out];try simp,rfl⟩
 ·have hr:=Lib.hid (show inr t 1 4=false by unfold inr;simp;omega)
  go_enter Tryz.func94,Tryz.ntmps94
  go_wp2
  go_ret
  exact ⟨by rw [hr.out];try simp,rfl⟩
set_option maxHeartbeats 1000000 in
theorem narrowingValid_any (s:Int) (Ag:Option Addr) (ng cg Bg:Nat) (gi:List Int) (Ar:Option Addr) (nr cr Br:Nat) (rs:List RuleM) (Am:Option Addr) (nm cm Bm:Nat) (m:List Int) (t:Int) (w:World) (hp:PGc w s Ag ng cg Bg gi Ar nr cr Br rs) (hm:Rd w Bm Am nm m) (hBm:Bm<=w.heap.size) (hm64:B64 m) (hmm:nm<=1099511627776) (hsb: -9223372036854775808<=s/\s<=9223372036854775807):
 Calls Tryz.prog 79 #[.agg #[.int .i64 s,.slice Ag ng cg,.slice Ar nr cr],.slice Am nm cm,.int .i64 t] w fun e w'=>e=.returned (.bool (nvB s gi rs m t))/\Below w.heap.size w w':=by
 have hx0:=pbox_new w s Ag ng cg Ar nr cr 26;have hb0:Below w.heap.size w (w.alloc (.cells #[.int .i64 s,.slice Ag ng cg,.slice Ar nr cr] 26)):=(Below.refl _ _).alloc (Nat.le_refl _) _
 have hs0:w.heap.size<(w.alloc (.cells #[.int .i64 s,.slice Ag ng cg,.slice Ar nr cr] 26)).heap.size:=by simp
 obtain ⟨z0,z1,z2⟩:=id hx0;have HV:=Lib.hid (fun w' (hb:Below w.heap.size w w')=>valid_any s Ag ng cg Bg gi Ar nr cr Br rs w' (hp.below hb));have HM:=Lib.hid (fun w' (hb:Below w.heap.size w w')=>implMasksValid Am cm nm Bm m s w' (hm.below (hb.mono hBm)) hm64 (Nat.le_trans hBm hb.size) hmm hsb);cases hr:inr t 1 4
 ·have HL:=Lib.hid (show nvB s gi rs m t=false by simp [nvB,hr])
  go_enter Tryz.func79,Tryz.ntmps79
  go_wp2_with (go_at_call 94;refine (techniqueKnown_any t _).mono ?_;rintro e wq ⟨rfl,rfl⟩;rw [hr])
  go_ret
  exact ⟨by rw [HL.out];try simp,hb0⟩
 ·cases hv:pvB s gi rs
  ·have HL:=Lib.hid (show nvB s gi rs m t=false by simp [nvB,hv])
   go_enter Tryz.func79,Tryz.ntmps79
   go_wp2_with (first
    |(go_at_call 94;refine (techniqueKnown_any t _).mono ?_;rintro e wq ⟨rfl,rfl⟩;rw [hr])
    |(go_at_call 60;refine (HV.out _ hb0).mono ?_;rintro e w1 ⟨rfl,hb1⟩;rw [hv];have h01:=step hb0 hb1))
   go_ret
   exact ⟨by rw [HL.out];try simp,h01⟩
  ·have HL:=Lib.hid (show nvB s gi rs m t=mvd m s by simp [nvB,hv,hr])
   go_enter Tryz.func79,Tryz.ntmps79
   go_wp2_with (first
    |(go_at_call 94;refine (techniqueKnown_any t _).mono ?_;rintro e wq ⟨rfl,rfl⟩;rw [hr])
    |(go_at_call 60;refine (HV.out _ hb0).mono ?_;rintro e w1 ⟨rfl,hb1⟩;rw [hv];have h01:=step hb0 hb1;obtain ⟨c0,c1,c2⟩:=hx0.below hs0 hb1)
    |(go_at_call 83;refine (HM.out _ h01).mono ?_;rintro e w2 ⟨rfl,hb2⟩;have h02:=step h01 hb2))
   go_ret
   exact ⟨by rw [HL.out];try simp,h02⟩
theorem nv_ok {s:Int} {gi:List Int} {rs:List RuleM} {m:List Int} {t:Int} (h:nvB s gi rs m t=true):(1<=t/\t<=4)/\pvB s gi rs=true/\mvd m s=true/\∃ S:Nat,s=S/\S∈[2,3,4]:=by
 unfold nvB at h;simp only [Bool.and_eq_true] at h;obtain ⟨⟨h1,h2⟩,h3⟩:=h;obtain ⟨⟨s2,s4⟩,_⟩:=mvd_at h3;obtain ⟨S,rfl⟩:=Int.eq_ofNat_of_zero_le (show 0<=s by omega);refine ⟨inr_t h1,h2,h3,S,rfl,?_⟩
 have:S=2\/S=3\/S=4:=by omega
 simpa using this
def anQ (x y:Nat):Bool:=(bits .andNot .i64 (x:Int) (y:Int) != 0)||(List.range 5).all fun t=> !x.testBit t||y.testBit t
theorem anQ_key:∀ x,x<32->∀ y,y<32->anQ x y=true:=by decide +kernel
theorem an_bits {x y:Nat} (hx:x<32) (hy:y<32) (h:bits .andNot .i64 (x:Int) (y:Int)=0) (t:Nat) (ht:x.testBit t=true):y.testBit t=true:=by
 have t5:t<5:=by
  rcases Nat.lt_or_ge t 5 with h|h
  ·exact h
  ·rw [Nat.testBit_lt_two_pow (Nat.lt_of_lt_of_le hx (Nat.pow_le_pow_right (n:=2) (by omega) h))] at ht;cases ht
 have key:=anQ_key x hx y hy;unfold anQ at key;rw [h] at key;simp only [bne_self_eq_false,Bool.false_or,List.all_eq_true,List.mem_range,Bool.or_eq_true,Bool.not_eq_true'] at key
 rcases key t t5 with h|h
 ·rw [ht] at h;cases h
 ·exact h
theorem Wi.trans {a b c:List Int} {s:Int} (ha:mvd a s=true) (hb:mvd b s=true) (hc:mvd c s=true) (hl:b.length=c.length) (h:Wi a b) (h':Wi b c):Wi a c:=fun k hk=>by
 obtain ⟨a0,a1,_⟩:=mvd_nth ha k;obtain ⟨b0,b1,_⟩:=mvd_nth hb k;obtain ⟨c0,c1,_⟩:=mvd_nth hc k;have e1:=h k (by omega);have e2:=h' k hk;obtain ⟨x,hx⟩:=Int.eq_ofNat_of_zero_le a0;obtain ⟨y,hy⟩:=Int.eq_ofNat_of_zero_le b0;obtain ⟨z,hz⟩:=Int.eq_ofNat_of_zero_le c0;rw [hx,hy] at e1;rw [hy,hz] at e2;rw [hx,hz];exact an_zero (by omega) (by omega) (fun t ht=>an_bits (by omega) (by omega) e2 t (an_bits (by omega) (by omega) e1 t ht))
theorem nrIn_wi {k v s:Int} {xs o:List Int} (hv:rv k xs v s=true) (hm:mvd o s=true) (j:Nat) (hj:j<=xs.length):Wi (nrIn xs (rmL k xs v o s) o j) o:=by
 induction j with
 |zero=>exact Wi.refl hm
 |succ j ih=>
  intro i hi;have hlen:=(nrIn_sub hv hm j (by omega)).1;have ih:=ih (by omega) i hi;simp only [nrIn]
  by_cases e:(nth xs j).toNat=i
  ·subst e;rw [nth_set (by rw [hlen];exact hi),if_pos rfl];exact rm_part hv hm (by omega)
  ·rw [nth_set_ne e];exact ih
theorem nrTo_wi {s:Int} {rs:List RuleM} {m:List Int} (hm:mvd m s=true) (hr:∀ i,i<rs.length->rvR s (rat rs i)=true) (u:Nat) (hu:u<=rs.length):Wi (nrTo s rs m u) m:=by
 induction u with
 |zero=>exact Wi.refl hm
 |succ u ih=>
  have hs:=nrTo_sub (m:=m) hm hr u (by omega);have ho:=hs.mvd_ hm;have h1:=nrIn_sub (hr u (by omega)) ho _ (Nat.le_refl _);exact Wi.trans (h1.mvd_ ho) ho hm hs.1 (nrIn_wi (hr u (by omega)) ho _ (Nat.le_refl _)) (ih (by omega))
theorem nr_wi {s:Int} {gi:List Int} {rs:List RuleM} {m:List Int} (hv:pvB s gi rs=true) (hm:mvd m s=true):Wi (nrL s gi rs m) m:=by
 unfold nrL;rw [hv,hm,Bool.true_and,if_pos rfl];exact nrTo_wi hm (pv_gv hv).2.2 _ (Nat.le_refl _)
theorem way_in {k v s:Int} {xs o g:List Int} (hv:rv k xs v s=true) (hh:rhB k xs v g s=true) (hg:gv g s=true) (ho:∀ i,i<g.length->inMask o g i=true):pks g xs xs.length∈waysN k v (pks o xs xs.length) xs.length:=by
 obtain ⟨⟨s2,s4⟩,_,_,hx⟩:=rv_facts rfl hv;simp only [rhB,Bool.and_eq_true,Bool.not_eq_true'] at hh;have hnz:=mem_ne hh.1.2;have hlg:=gv_len hg;refine List.mem_filter.2 ⟨allW_mem _ _ _ (by simp [pks_length]) (fun i hi=>absurd hi (by simp)) (fun i _ hi=>?_),hh.2⟩
 have hi':i<xs.length:=by simpa using hi
 have h0:=hnz i hi';rw [pks_nth hi'] at h0 ⊢;rw [pks_nth hi'];obtain ⟨x0,x1⟩:=hx i hi'
 have hp:(nth xs i).toNat<g.length:=by omega
 obtain ⟨q0,q1⟩:=gv_nth hg hp;have hb:=ho _ hp;unfold inMask at hb;exact bits_iff.2 ⟨(nth g (nth xs i).toNat).toNat,by omega,by omega,by omega,hb⟩
theorem nrIn_in {k v s:Int} {xs o g:List Int} (hv:rv k xs v s=true) (hm:mvd o s=true) (hh:rhB k xs v g s=true) (hg:gv g s=true) (ho:∀ i,i<g.length->inMask o g i=true) (j:Nat) (hj:j<=xs.length):∀ i,i<g.length->inMask (nrIn xs (rmL k xs v o s) o j) g i=true:=by
 have hw:=way_in hv hh hg ho
 induction j with
 |zero=>exact ho
 |succ j ih=>
  intro i hi;have ih:=ih (by omega) i hi;have hlen:=(nrIn_sub hv hm j (by omega)).1;have hlo:=(mvd_at hm).2.1;have hlg:=gv_len hg;unfold inMask at ih ⊢;simp only [nrIn]
  by_cases e:(nth xs j).toNat=i
  ·subst e;rw [nth_set (by omega),if_pos rfl,rm_nth hv hm,Int.toNat_natCast,rmF_bit (by omega)];exact ⟨_,hw,by rw [pks_nth (by omega)]⟩
  ·rw [nth_set_ne e];exact ih
theorem nrTo_in {s:Int} {rs:List RuleM} {m g:List Int} (hm:mvd m s=true) (hr:∀ i,i<rs.length->rvR s (rat rs i)=true) (hh:∀ i,i<rs.length->rhB (rat rs i).k (rat rs i).xs (rat rs i).v g s=true) (hg:gv g s=true) (ho:∀ i,i<g.length->inMask m g i=true) (u:Nat) (hu:u<=rs.length):∀ i,i<g.length->inMask (nrTo s rs m u) g i=true:=by
 induction u with
 |zero=>exact ho
 |succ u ih=>
  have hs:=nrTo_sub (m:=m) hm hr u (by omega);exact nrIn_in (hr u (by omega)) (hs.mvd_ hm) (hh u (by omega)) hg (ih (by omega)) _ (Nat.le_refl _)
theorem ps_rules {s:Int} {gi g:List Int} {rs:List RuleM} (h:psB s gi rs g=true):pvB s gi rs=true/\gv g s=true/\sqSolved g s=true/\∀ i,i<rs.length->rhB (rat rs i).k (rat rs i).xs (rat rs i).v g s=true:=by
 have hf:fpB s gi rs g=true:=by unfold psB at h;rw [Bool.and_eq_true] at h;exact h.1
 obtain ⟨h1,h2,_⟩:=fp_parts.1 hf;rw [ps_is h1 h2] at h;simp only [Bool.and_eq_true,List.all_eq_true,List.mem_range] at h;exact ⟨h1,h2,h.1.1,h.1.2⟩
theorem nr_keeps {s:Int} {gi m g:List Int} {rs:List RuleM} (hm:mvd m s=true) (hg:psB s gi rs g=true) (h:mhB m s g=true):mhB (nrL s gi rs m) s g=true:=by
 obtain ⟨hv,hgv,_,hh⟩:=ps_rules hg;simp only [mhB,Bool.and_eq_true,List.all_eq_true,List.mem_range] at h ⊢;refine ⟨⟨(nr_sub hv hm).mvd_ hm,hgv⟩,?_⟩;unfold nrL;rw [hv,hm,Bool.true_and,if_pos rfl];exact nrTo_in hm (pv_gv hv).2.2 hh hgv h.2 _ (Nat.le_refl _)
theorem nsIn_wi {m o:List Int} {s:Int} {S i:Nat} (hm:mvd m s=true) (hs:Sub o m) (h:Wi o m) (k:Nat):Wi (nsIn m S i o k) m:=by
 induction k with
 |zero=>exact h
 |succ k ih=>
  simp only [nsIn]
  split
  ·exact ih.anput (nsIn_sub hm hs k) hm ⟨(mvd_nth hm i).1,(mvd_nth hm i).2.1⟩ k
  ·exact ih
theorem nsTo_wi {m:List Int} {s:Int} {S n:Nat} (hm:mvd m s=true) (i:Nat):Wi (nsTo m S n i) m:=by
 induction i with
 |zero=>exact Wi.refl hm
 |succ i ih=>
  simp only [nsTo]
  split
  ·exact nsIn_wi hm (nsTo_sub hm i) ih n
  ·exact ih
theorem ns_wi {m:List Int} {s:Int} (hm:mvd m s=true) (n:Nat):Wi (nsL m s n) m:=by
 unfold nsL;rw [if_pos hm];exact nsTo_wi hm n
theorem pow_bit (v t:Nat) (h:((2:Nat)^v).testBit t=true):v=t:=by
 rw [Nat.testBit_two_pow,decide_eq_true_eq] at h;exact h
theorem nsIn_in {m g o:List Int} {s i:Nat} (hs:s∈[2,3,4]) (hm:mvd m s=true) (hsb:Sub o m) (hl:g.length=s*s) (hg:sqSolved g s=true) (hi:i<s*s) (hone:(maskVals (nth m i)).length=1) (hin:inMask m g i=true) (ho:∀ k,k<s*s->inMask o g k=true) (K:Nat) (hK:K<=s*s):∀ k,k<s*s->inMask (nsIn m s i o K) g k=true:=by
 obtain ⟨hgv,hcl,hnz⟩:=(solved_iff hl).1 hg
 have hg4:∀ k,k<s*s->0<=nth g k/\(nth g k).toNat<5:=fun k hk=>by
  obtain ⟨q0,q1⟩:=gv_nth hgv (k:=k) (by omega);have:=gv_size hgv;omega
 obtain ⟨v,v1,v4,hx⟩:∃ v:Nat,1<=v/\v<=4/\nth m i=2^v:=by
  rcases one_at hm i with ⟨_,v,a,b,_,d⟩|⟨h,_⟩
  ·exact ⟨v,a,b,d⟩
  ·exact absurd hone h
 have hxN:nth m i=((2^v:Nat):Int):=by rw [hx];simp
 have hlt:2^v<32:=by
  have:(2:Nat)^v<2^5:=Nat.pow_lt_pow_right (by omega) (by omega);omega
 have hgi:(nth g i).toNat=v:=by
  unfold inMask at hin;rw [hxN,Int.toNat_natCast] at hin;exact (pow_bit _ _ hin).symm
 intro k hk;have hln:=len_of hs hm
 have hlo:o.length=s*s:=by rw [hsb.1,hln]
 have h0:=ho k hk;unfold inMask at h0 ⊢;rw [nsIn_nth K (by omega)]
 by_cases hc:k<K/\seesB s k i=true
 ·rw [if_pos hc];obtain ⟨⟨x0,x1,_⟩,_⟩:=hsb.at_ hm (k:=k) (by rw [hln];exact hk);obtain ⟨x,hxx⟩:=Int.eq_ofNat_of_zero_le x0;rw [hxx] at h0 ⊢;rw [Int.toNat_natCast] at h0;rw [hxN,an_bit x (by omega) (2^v) hlt _ (hg4 k hk).2,h0,Bool.true_and,Bool.not_eq_true'];cases e:(2^v).testBit (nth g k).toNat
  ·rfl
  ·have e1:=pow_bit _ _ e;have hadj:adj s k i=true:=(by simpa [seesB,adj] using hc.2);have:clash g s=true:=(clash_iff hs).2 ⟨k,i,hk,hi,hadj,by have:=hg4 k hk;have:=hg4 i hi;omega,by have:=hnz i hi;have:=hg4 i hi;omega⟩;rw [hcl] at this;cases this
 ·rw [if_neg hc];exact h0
theorem nsTo_in {m g:List Int} {s:Nat} (hs:s∈[2,3,4]) (hm:mvd m s=true) (hl:g.length=s*s) (hg:sqSolved g s=true) (hin:∀ k,k<s*s->inMask m g k=true) (i:Nat) (hi:i<=s*s):∀ k,k<s*s->inMask (nsTo m s (s*s) i) g k=true:=by
 induction i with
 |zero=>exact hin
 |succ i ih=>
  simp only [nsTo]
  split
  ·next h1=>exact nsIn_in hs hm (nsTo_sub hm i) hl hg (by omega) h1 (hin i (by omega)) (ih (by omega)) _ (Nat.le_refl _)
  ·exact ih (by omega)
theorem ns_keeps {m g:List Int} {s:Int} {n:Nat} (hn:m.length=n) (hm:mvd m s=true) (hg:sqSolved g s=true) (h:mhB m s g=true):mhB (nsL m s n) s g=true:=by
 obtain ⟨⟨s2,s4⟩,_,_,_⟩:=mvd_at hm;obtain ⟨t,rfl⟩:∃ t:Nat,s=t:=⟨s.toNat,by omega⟩
 have hs:t∈[2,3,4]:=by simp;omega
 have hnt:n=t*t:=by rw [<- hn];exact len_of hs hm
 simp only [mhB,Bool.and_eq_true,List.all_eq_true,List.mem_range] at h ⊢;obtain ⟨⟨_,hgv⟩,hin⟩:=h;have hlg:=gv_len hgv
 have hln:g.length=t*t:=by
  simp at hs
  rcases hs with rfl|rfl|rfl<;>omega
 refine ⟨⟨(ns_sub hm n).mvd_ hm,hgv⟩,?_⟩;rw [hln] at hin ⊢;have:=nsTo_in hs hm hln hg hin (t*t) (Nat.le_refl _);unfold nsL;rw [if_pos hm,Int.toNat_natCast,hnt];exact this
theorem mv_bits' {m:List Int} {s:Int} (hm:mvd m s=true) (k:Nat):∃ M:Nat,nth m k=(M:Int)/\M<32/\maskVals (nth m k)=bitsTo M 4:=by
 obtain ⟨x0,x1,x2⟩:=mvd_nth hm k;obtain ⟨M,hM⟩:=Int.eq_ofNat_of_zero_le x0
 have hm2:M%2=0:=by rw [hM,Int.tmod_eq_emod_of_nonneg (by omega)] at x2;omega
 exact ⟨M,hM,by omega,by rw [hM,mv_bits (by omega) hm2]⟩
theorem nb_wi {s t:Int} {gi m:List Int} {rs:List RuleM} (hv:pvB s gi rs=true) (hm:mvd m s=true) (h1:1<=t) (h4:t<=4):Wi (nbL s gi rs m t) m:=by
 unfold nbL;rw [hv,hm,Bool.true_and,if_pos rfl]
 have:t=1\/t=2\/t=3\/t=4:=by omega
 rcases this with rfl|rfl|rfl|rfl
 ·exact ns_wi hm _
 ·exact nh_wi hm
 ·exact np_wi hm
 ·exact nr_wi hv hm
theorem nb_keeps {s t:Int} {gi m g:List Int} {rs:List RuleM} (hm:mvd m s=true) (hg:psB s gi rs g=true) (h1:1<=t) (h4:t<=4) (h:mhB m s g=true):mhB (nbL s gi rs m t) s g=true:=by
 obtain ⟨hv,_,hsq,_⟩:=ps_rules hg;unfold nbL;rw [hv,hm,Bool.true_and,if_pos rfl]
 have:t=1\/t=2\/t=3\/t=4:=by omega
 rcases this with rfl|rfl|rfl|rfl
 ·exact ns_keeps rfl hm hsq h
 ·exact nh_keeps hm hsq h
 ·exact np_keeps hm hsq h
 ·exact nr_keeps hm hg h
theorem na_keeps {s:Int} {gi m g:List Int} {rs:List RuleM} {most r:Nat} (h4:most<=4) (hm:mvd m s=true) (hg:psB s gi rs g=true) (h:mhB m s g=true):mhB (naE s gi rs most m r).1 s g=true:=
 (naE_ind (fun o=>mhB o s g=true) (ps_rules hg).1 h4 (fun _ _ ho t1 t2 h=>nb_keeps ho hg (by omega) (by omega) h) hm h).1
theorem na_wi {s:Int} {gi m:List Int} {rs:List RuleM} {most r:Nat} (hv:pvB s gi rs=true) (h4:most<=4) (hm:mvd m s=true):Wi (naE s gi rs most m r).1 m/\mvd (naE s gi rs most m r).1 s=true/\(naE s gi rs most m r).1.length=m.length:=by
 have:=naE_ind (r:=r) (fun o=>o.length=m.length/\Wi o m) hv h4 (fun o t ho t1 t2 h=>by
  have hs:=nb_sub (t:=(t:Int)) hv ho (by omega) (by omega)
  exact ⟨hs.1.trans h.1,Wi.trans (hs.mvd_ ho) ho hm h.1 (nb_wi hv ho (by omega) (by omega)) h.2⟩) hm ⟨rfl,Wi.refl hm⟩
 exact ⟨this.1.2,this.2,this.1.1⟩
end Go.Proofs.YtkeoflnmbcdmfaaGreatDoor
namespace Go.Proofs.YtkeoflnmbcdmfaaGreatDoor
section
variable {P : Program} {md : Region.Mode} {ops : Array Oper} {Q : Exit → Act → World → Prop} {Inv : Array Bool → Act → World → Prop}
end
end Go.Proofs.YtkeoflnmbcdmfaaGreatDoor
namespace Go.Proofs.YtkeoflnmbcdmfaaGreatDoor
open Go.ChangeShapes Go.WideShapes Go.ChangeAt Go.RowKit
structure MwR (G R:Nat) (W w:World):Prop where
 os:w.os=W.os
 tape:w.tape=W.tape
 output:w.output=W.output
 size:W.heap.size<=w.heap.size
 same:∀ k,k<W.heap.size->k≠G->k≠R->w.heap[k]? =W.heap[k]?
 row:∀ cs:Array Value,W.heap[R]? =some (.cells cs 26)->cs.size=3->∃ cs':Array Value,w.heap[R]? =some (.cells cs' 26)/\cs'.size=3
theorem MwR.trans {G R:Nat} {a b c:World} (h:MwR G R a b) (k:MwR G R b c):MwR G R a c:=
 ⟨k.os.trans h.os,k.tape.trans h.tape,k.output.trans h.output,Nat.le_trans h.size k.size,fun i hi h1 h2=>(k.same i (Nat.lt_of_lt_of_le hi h.size) h1 h2).trans (h.same i hi h1 h2),fun cs h1 h2=>by
   obtain ⟨c1,e1,e2⟩:=h.row cs h1 h2
   exact k.row c1 e1 e2⟩
theorem heap_alloc_old {w:World} {R:Nat} (hR:R<w.heap.size) (o:Obj):(w.alloc o).heap[R]? =w.heap[R]? :=((Below.refl _ w).alloc (Nat.le_refl _) o).block R hR
structure Aside (D:Nat) (X Y:World):Prop where
 os:Y.os=X.os
 tape:Y.tape=X.tape
 output:Y.output=X.output
 size:X.heap.size<=Y.heap.size
 block:∀ k,k<X.heap.size->k≠D->k≠D+1->Y.heap[k]? =X.heap[k]?
theorem Aside.of_below {D:Nat} {X Y:World} (h:Below X.heap.size X Y):Aside D X Y:=⟨h.os,h.tape,h.output,h.size,fun k hk _ _=>h.block k hk⟩
theorem Aside.of_put {D l:Nat} {X:World} (o:Obj) (h:l=D\/l=D+1):Aside D X (X.putObj l o):=
 ⟨rfl,rfl,rfl,by simp,fun k _ h1 h2=>World.putObj_heap_other (by omega)⟩
theorem Aside.below {D:Nat} {X Y:World} (h:Aside D X Y) (hD:D<=X.heap.size):Below D X Y:=⟨h.os,h.tape,h.output,h.size,fun k hk=>h.block k (by omega) (by omega) (by omega)⟩
def SeqT (P:Program) (gf:Nat) (lb:Array Value) (Base:World->Prop) (rounds:List (Nat×List Int)):Prop:=
 ∀ (l:Nat) (J:List (Nat×List Int)->World->Prop) (Jx:World->Prop) (W:World),
   (∀ pre X,J pre X->Base X)->
   (∀ pre X Y,J pre X->Below X.heap.size X Y->J pre Y)->
   (∀ X Y,Jx X->Below X.heap.size X Y->Jx Y)->
   (∀ pre t x X b n c,J pre X->(∃ tl,rounds=pre++(t,x)::tl)->W.heap.size<=b->Ow X W.heap.size (some ⟨b,0,none⟩) n c x->
     YieldAt Fence.wide 0 P l #[.int .i64 (t:Nat),.slice (some ⟨b,0,none⟩) n c] X fun e Y=>X.heap.size<=Y.heap.size/\Y.heap[b]? =X.heap[b]? /\((e=.returned (.bool true)/\J (pre++[(t,x)]) Y)\/(e=.returned (.bool false)/\Jx Y)))->
   J [] W->
   Calls P gf (#[.func (.yield l) #[] #[]]++lb) W fun e Y=>(∃ v,e=.returned v)/\(J rounds Y\/Jx Y)
def rndPost (D b:Nat) (I:List (Nat×List Int)->World->Prop) (Ix:Code->World->Prop) (xs:List (Nat×List Int)) (X:World):Exit->Act->World->Prop
 |.normal,_,Y=>(X.heap.size<=Y.heap.size/\∀ k,k=b\/k=D\/k=D+1->Y.heap[k]? =X.heap[k]?)/\I xs Y
 |.ret,_,Y=>(X.heap.size<=Y.heap.size/\∀ k,k=b\/k=D\/k=D+1->Y.heap[k]? =X.heap[k]?)/\Ix .ret Y
 |.exit id,_,Y=>(X.heap.size<=Y.heap.size/\∀ k,k=b\/k=D\/k=D+1->Y.heap[k]? =X.heap[k]?)/\Ix (.exit id) Y
 |.goto t,_,Y=>(X.heap.size<=Y.heap.size/\∀ k,k=b\/k=D\/k=D+1->Y.heap[k]? =X.heap[k]?)/\Ix (.goto t) Y
 |.panic _,_,_=>False
 |.outgrown,_,_=>False
theorem range_rounds {P:Program} (m:Nat) {g:Operand} {ps:Array Tmp} {assign body:Code} {Q:Exit->Act->World->Prop} {a:Act} {w:World}
 {gf:Nat} {lb:Array Value} (hg:a.eval g=.func (.func gf) #[] lb) (eg:∀ args w,(callFunc gf args).run P w=.ok (.enter gf args) w) (hps:ps.size=2)
 {Base:World->Prop} {rounds:List (Nat×List Int)} (hseq:SeqT P gf lb Base rounds)
 (I:List (Nat×List Int)->World->Prop) (Ix:Code->World->Prop) (hIb:∀ pre X,I pre X->Base X)
 (hI:∀ pre X Y,I pre X->Aside w.heap.size X Y->I pre Y) (hIx:∀ c X Y,Ix c X->Aside w.heap.size X Y->Ix c Y) (h0:I [] w) (a₁:Value->Value->Act)
 (hassign:∀ (l:Nat) (u v:Value) (W:World) (K:Act->World->Prop),K (a₁ u v) W->
   assign.wpIn (Fence.wide.inRound l) m P (Exit.then K (fun _ _ _=>False)) { tmps:=(ps.zip #[u,v]).foldl (fun t (p,v)=>t.setIfInBounds p v) a.tmps,defers:=[] } W)
 (hbody:∀ (l:Nat) (pre:List (Nat×List Int)) (t:Nat) (x:List Int) (X:World) (b n c:Nat),I pre X->(∃ tl,rounds=pre++(t,x)::tl)->w.heap.size+2<=b->w.heap.size+2<=X.heap.size->Ow X (w.heap.size+2) (some ⟨b,0,none⟩) n c x->(∃ o,X.heap[w.heap.size]? =some (.deferred o))->(∃ o,X.heap[w.heap.size+1]? =some (.loop o))->
   body.wpIn (Fence.wide.inRound l) m P (rndPost w.heap.size b I Ix (pre++[(t,x)]) X) (a₁ (.int .i64 (t:Nat)) (.slice (some ⟨b,0,none⟩) n c)) X)
 (hdone:∀ (D:Nat) (W:World),w.heap.size<=D->I rounds W->W.heap[D]? =some (.deferred (some []))->Q .normal { a with defers:={ target:=.collected D,args:= #[] }::a.defers } W)
 (hstop:∀ (D:Nat) (c:Code) (W:World),w.heap.size<=D->Ix c W->W.heap[D]? =some (.deferred (some []))->c.wpIn Fence.wide m P Q { a with defers:={ target:=.collected D,args:= #[] }::a.defers } W):
 (Code.rangeFunc g ps assign body).wpIn Fence.wide m P Q a w:=by
 refine wpIn_rangeFunc ?_;intro fn _
 obtain ⟨rec,hrec⟩:∃ rec:LoopState->Option Code->Loop,rec=fun st pe=>{ state:=st,pending:=pe,fn,tmps:=a.tmps,params:=ps,assign,body,defers:=w.heap.size }:=⟨_,rfl⟩
 obtain ⟨W1,hW1⟩:∃ W1,(w.alloc (.deferred (some []))).alloc (.loop (rec .ready none))=W1:=⟨_,rfl⟩
 have hs1:W1.heap.size=w.heap.size+2:=by rw [<- hW1];simp
 have hL1:W1.heap[w.heap.size+1]? =some (.loop (rec .ready none)):=by
  rw [<- hW1];have:=World.alloc_heap_new (w.alloc (.deferred (some []))) (.loop (rec .ready none));rwa [World.size_alloc] at this
 have hK1:W1.heap[w.heap.size]? =some (.deferred (some [])):=by
  rw [<- hW1];exact (Below.heap_alloc _ _ _ (by simp)).trans (World.alloc_heap_new w _)
 have hb1:Below w.heap.size w W1:=by
  rw [<- hW1];exact ((Below.refl _ w).alloc (Nat.le_refl _) _).alloc (by simp) _
 refine ⟨w.heap.size+1,[{ target:=.collected w.heap.size,args:= #[] }],W1,{ target:=.fn (.func gf) lb,args:= #[.func (.yield (w.heap.size+1)) #[] #[]] },W1,gf,
  #[.func (.yield (w.heap.size+1)) #[] #[]]++lb,W1,?_,?_,?_,?_,fun h=>by simp [Fence.wide] at h,?_⟩
 ·rw [<- hW1,hrec];exact run_enterLoop_outer _ _ _ _ _
 ·simp only [resolve,hg]
  simp [go_sem]
 ·intro f' _;trivial
 ·simp [invoke,go_sem,eg]
 ·refine callsIn_wide.2 ((hseq (w.heap.size+1)
   (fun pre W=>I pre W/\W.heap[w.heap.size+1]? =some (.loop (rec .ready none))/\W.heap[w.heap.size]? =some (.deferred (some [])))
   (fun W=>∃ c,Ix c W/\W.heap[w.heap.size+1]? =some (.loop (rec .done (some c)))/\W.heap[w.heap.size]? =some (.deferred (some [])))
   W1 (fun pre X h=>hIb pre X h.1)
   (fun pre X Y hs hb=>⟨hI pre X Y hs.1 (Aside.of_below hb),(hb.block _ (Array.getElem?_eq_some_iff.1 hs.2.1).1).trans hs.2.1,(hb.block _ (Array.getElem?_eq_some_iff.1 hs.2.2).1).trans hs.2.2⟩)
   (fun X Y hs hb=>by
     obtain ⟨c,h1,h2,h3⟩:=hs
     exact ⟨c,hIx c X Y h1 (Aside.of_below hb),(hb.block _ (Array.getElem?_eq_some_iff.1 h2).1).trans h2,(hb.block _ (Array.getElem?_eq_some_iff.1 h3).1).trans h3⟩)
   ?_ ⟨hI [] w W1 h0 ⟨hb1.os,hb1.tape,hb1.output,hb1.size,fun k hk _ _=>hb1.block k hk⟩,hL1,hK1⟩).mono ?_)
  ·rintro pre t x X b n c ⟨hi,hl,hk⟩ hx hbw hown;have hlt:w.heap.size+1<X.heap.size:=(Array.getElem?_eq_some_iff.1 hl).1;have hy:=run_yield (P:=P) (args:= #[.int .i64 (t:Nat),.slice (some ⟨b,0,none⟩) n c]) hl (by rw [hrec];simp [hps]);rw [hrec] at hy;refine ⟨fn,_,assign,body,hy,roundIn_any (m:=m) (roundIn_of_wpIn trivial (hassign _ (.int .i64 (t:Nat)) (.slice (some ⟨b,0,none⟩) n c) X _ ⟨_,run_beginRound hl (by rw [hrec]),?_⟩))⟩;obtain ⟨X2,hX2⟩:∃ X2,X.putObj (w.heap.size+1) (.loop { rec .ready none with state:=.busy })=X2:=⟨_,rfl⟩;have hl2:X2.heap[w.heap.size+1]? =some (.loop { rec .ready none with state:=.busy }):=(by rw [<- hX2];exact World.putObj_heap_same hlt)
   have hk2:X2.heap[w.heap.size]? =some (.deferred (some [])):=(by rw [<- hX2];exact (World.putObj_heap_other (by omega)).trans hk);have hA2:Aside w.heap.size X X2:=(by rw [<- hX2];exact Aside.of_put _ (.inr rfl));have hb2:X2.heap[b]? =X.heap[b]? :=(by rw [<- hX2];exact World.putObj_heap_other (by omega));have hown2:Ow X2 (w.heap.size+2) (some ⟨b,0,none⟩) n c x:=(by rw [<- hs1];exact hown.same hb2);have hsz2:=hA2.size;rw [hX2];refine wpIn_mono (hbody _ pre t x X2 b n c (hI _ _ _ hi hA2) hx (by omega) (by omega) hown2 ⟨_,hk2⟩ ⟨_,hl2⟩) ?_
   have fin:∀ (jump:Option Code) (W3:World),(X2.heap.size<=W3.heap.size/\∀ k,k=b\/k=w.heap.size\/k=w.heap.size+1->W3.heap[k]? =X2.heap[k]?)->
       (Instr.endRound (w.heap.size+1) jump).run P W3=.ok (.bool jump.isNone) (W3.putObj (w.heap.size+1) (.loop (rec (if jump.isNone then .ready else .done) jump)))/\
       Aside w.heap.size W3 (W3.putObj (w.heap.size+1) (.loop (rec (if jump.isNone then .ready else .done) jump)))/\
       X.heap.size<=(W3.putObj (w.heap.size+1) (.loop (rec (if jump.isNone then .ready else .done) jump))).heap.size/\
       (W3.putObj (w.heap.size+1) (.loop (rec (if jump.isNone then .ready else .done) jump))).heap[b]? =X.heap[b]? /\
       (W3.putObj (w.heap.size+1) (.loop (rec (if jump.isNone then .ready else .done) jump))).heap[w.heap.size+1]? =some (.loop (rec (if jump.isNone then .ready else .done) jump))/\
       (W3.putObj (w.heap.size+1) (.loop (rec (if jump.isNone then .ready else .done) jump))).heap[w.heap.size]? =some (.deferred (some [])):=fun jump W3 hk3=>by
    have hl3:=(hk3.2 (w.heap.size+1) (by omega)).trans hl2;have hlt3:=(Array.getElem?_eq_some_iff.1 hl3).1;have:=run_endRound (P:=P) jump hl3;rw [hrec] at this ⊢;exact ⟨this,Aside.of_put _ (.inr rfl),by have:=hk3.1;simp;omega,(World.putObj_heap_other (by omega)).trans ((hk3.2 b (.inl rfl)).trans hb2),World.putObj_heap_same hlt3,(World.putObj_heap_other (by omega)).trans ((hk3.2 _ (.inr (.inl rfl))).trans hk2)⟩
   rintro e a3 W3 hp
   cases e with
   |normal=>
    obtain ⟨hk3,hi3⟩:=hp;obtain ⟨hr,hb4,hm4,hm5,hl4,hk4⟩:=fin none W3 hk3;exact ⟨_,_,hr,hm4,hm5,.inl ⟨rfl,hI _ _ _ hi3 hb4,hl4,hk4⟩⟩
   |ret=>
    obtain ⟨hk3,hi3⟩:=hp;obtain ⟨hr,hb4,hm4,hm5,hl4,hk4⟩:=fin (some .ret) W3 hk3;exact ⟨_,_,hr,hm4,hm5,.inr ⟨rfl,.ret,hIx _ _ _ hi3 hb4,hl4,hk4⟩⟩
   |exit id=>
    obtain ⟨hk3,hi3⟩:=hp;obtain ⟨hr,hb4,hm4,hm5,hl4,hk4⟩:=fin (some (.exit id)) W3 hk3;exact ⟨_,_,hr,hm4,hm5,.inr ⟨rfl,.exit id,hIx _ _ _ hi3 hb4,hl4,hk4⟩⟩
   |goto t'=>
    obtain ⟨hk3,hi3⟩:=hp;obtain ⟨hr,hb4,hm4,hm5,hl4,hk4⟩:=fin (some (.goto t')) W3 hk3;exact ⟨_,_,hr,hm4,hm5,.inr ⟨rfl,.goto t',hIx _ _ _ hi3 hb4,hl4,hk4⟩⟩
   |panic ch=>exact hp.elim
   |outgrown=>exact hp.elim
  ·rintro e W2 ⟨⟨v,rfl⟩,(⟨hi,hl,hk⟩|⟨c,hi,hl,hk⟩)⟩
   ·exact ⟨none,_,by have:=run_endLoop (P:=P) hl (by rw [hrec];simp);rw [hrec] at this;exact this,hdone _ _ (Nat.le_refl _) (hI _ _ _ hi (Aside.of_put _ (.inr rfl))) ((World.putObj_heap_other (by omega)).trans hk)⟩
   ·exact ⟨some c,_,by have:=run_endLoop (P:=P) hl (by rw [hrec];simp);rw [hrec] at this;exact this,hstop _ c _ (Nat.le_refl _) (hIx _ _ _ hi (Aside.of_put _ (.inr rfl))) ((World.putObj_heap_other (by omega)).trans hk)⟩
theorem range_rounds2 {P:Program} (m:Nat) {g:Operand} {p p' q:Nat} {assign body:Code} {Q:Exit->Act->World->Prop} {a:Act} {w:World}
 {gf:Nat} {lb:Array Value} (hg:a.eval g=.func (.func gf) #[] lb) (eg:∀ args w,(callFunc gf args).run P w=.ok (.enter gf args) w)
 {Base:World->Prop} {rounds:List (Nat×List Int)} (hseq:SeqT P gf lb Base rounds)
 (I:List (Nat×List Int)->World->Prop) (Ix:Code->World->Prop) (hIb:∀ pre X,I pre X->Base X)
 (hI:∀ pre X Y,I pre X->Aside w.heap.size X Y->I pre Y) (hIx:∀ c X Y,Ix c X->Aside w.heap.size X Y->Ix c Y) (h0:I [] w)
 (hassign:∀ (l:Nat) (u v:Value) (W:World) (K:Act->World->Prop),K { tmps:=((a.tmps.setIfInBounds p u).setIfInBounds p' v).setIfInBounds q v,defers:=[] } W->
   assign.wpIn (Fence.wide.inRound l) m P (Exit.then K (fun _ _ _=>False)) { tmps:=(a.tmps.setIfInBounds p u).setIfInBounds p' v,defers:=[] } W)
 (hbody:∀ (l:Nat) (pre:List (Nat×List Int)) (t:Nat) (x:List Int) (X:World) (b n c:Nat),I pre X->(∃ tl,rounds=pre++(t,x)::tl)->w.heap.size+2<=b->w.heap.size+2<=X.heap.size->Ow X (w.heap.size+2) (some ⟨b,0,none⟩) n c x->(∃ o,X.heap[w.heap.size]? =some (.deferred o))->(∃ o,X.heap[w.heap.size+1]? =some (.loop o))->
   body.wpIn (Fence.wide.inRound l) m P (rndPost w.heap.size b I Ix (pre++[(t,x)]) X) { tmps:=((a.tmps.setIfInBounds p (.int .i64 (t:Nat))).setIfInBounds p' (.slice (some ⟨b,0,none⟩) n c)).setIfInBounds q (.slice (some ⟨b,0,none⟩) n c),defers:=[] } X)
 (hdone:∀ (D:Nat) (W:World),w.heap.size<=D->I rounds W->W.heap[D]? =some (.deferred (some []))->Q .normal { a with defers:={ target:=.collected D,args:= #[] }::a.defers } W)
 (hstop:∀ (D:Nat) (c:Code) (W:World),w.heap.size<=D->Ix c W->W.heap[D]? =some (.deferred (some []))->c.wpIn Fence.wide m P Q { a with defers:={ target:=.collected D,args:= #[] }::a.defers } W):
 (Code.rangeFunc g #[p,p'] assign body).wpIn Fence.wide m P Q a w:=
 range_rounds m hg eg rfl hseq I Ix hIb hI hIx h0 (fun u v=>{ tmps:=((a.tmps.setIfInBounds p u).setIfInBounds p' v).setIfInBounds q v,defers:=[] }) (fun l u v W K hK=>by
  simpa using hassign l u v W K hK) hbody hdone hstop
end Go.Proofs.YtkeoflnmbcdmfaaGreatDoor
namespace Go.Proofs.YtkeoflnmbcdmfaaGreatDoor
open Go.ChangeShapes Go.WideShapes Go.ChangeAt Go.RowKit Go.Shelf
attribute [local go_sem] Oper.semAt_some
structure RBase (NB MB SB s L Br:Nat) (At:Option Addr) (nt ct Bt:Nat) (rs:List RuleM) (Am:Option Addr) (nm cm Bm:Nat) (ms:List Int) (most:Nat) (X:World):Prop where
 n:X.heap[NB]? =some (.cells #[.int .i64 s,.slice At nt ct] 94)
 m:X.cell? ⟨MB,0,none⟩=some (.slice Am nm cm)
 o:X.cell? ⟨SB,0,none⟩=some (.int .i64 most)
 t:4<=most->TbR X L Bt Br s rs At nt
 tB:Bt<=X.heap.size
 tr:Br<=Bt
 r:Rd X Bm Am nm ms
 rB:Bm<=X.heap.size
 z:Tz X
set_option maxHeartbeats 4000000 in
theorem rounds_seq (NB MB SB s L Br:Nat) (At:Option Addr) (nt ct Bt:Nat) (gi:List Int) (rs:List RuleM) (Am:Option Addr) (nm cm Bm:Nat) (m:List Int) (most:Nat) (hs:s∈[2,3,4]) (hv:pvB s gi rs=true) (hm:mvd m s=true) (h4:most<=4) (hml:m.length=nm):
 SeqT Tryz.prog 131 #[.pointer (some ⟨NB,0,none⟩),.pointer (some ⟨MB,0,none⟩),.pointer (some ⟨SB,0,none⟩)] (RBase NB MB SB s L Br At nt ct Bt rs Am nm cm Bm m most) (roE s gi rs most m):=by
 intro l J Jx W hJb hJs hJx hY h0;have HN:=Lib.hid (fun (pre:List (Nat×List Int)) (X:World) (hJ:J pre X) (A:Option Addr) (c B:Nat) (o:List Int) (hr:Rd X B A nm o) (hB:B<=X.heap.size) (ho:mvd o s=true)=>next_any s L Br At nt ct Bt gi rs A c nm B o most X (hJb _ _ hJ).t (hJb _ _ hJ).tB (hJb _ _ hJ).tr hr hB (hJb _ _ hJ).z hs hv ho h4);have HB:=Lib.hid (fun (pre:List (Nat×List Int)) (X:World) (hJ:J pre X)=>(⟨(hJb _ _ hJ).n,(hJb _ _ hJ).m,(hJb _ _ hJ).o⟩:X.heap[NB]? =some (.cells #[.int .i64 s,.slice At nt ct] 94)/\X.cell? ⟨MB,0,none⟩=some (.slice Am nm cm)/\X.cell? ⟨SB,0,none⟩=some (.int .i64 most)))
 have HN0:=Lib.hid (HN.out [] W h0 Am cm Bm m (hJb _ _ h0).r (hJb _ _ h0).rB hm);have Hi:=Lib.hid nar_info;have HJs:=Lib.hid hJs;have HJx:=Lib.hid hJx;have HY:=Lib.hid hY;have HAt:=Lib.hid (fun (pre tl:List (Nat×List Int)) (x:List Int) (t:Nat) (h:roE s gi rs most m=pre++(t,x)::tl)=>roE_at hv h4 hm h);have HSp:=Lib.hid (fun (o:List Int) (q:List Int×Nat) (ho:mvd o s=true) (hq:ntF s gi rs o most 1=some q)=>roE_some hv h4 ho (q:=q.1) (u:=q.2) hq);have HSu:=Lib.hid (fun (o:List Int) (q:List Int×Nat) (ho:mvd o s=true) (hq:ntF s gi rs o most 1=some q)=>(ntF_sub hv h4 ho (q:=q.1) (u:=q.2) hq))
 have HT1:=Lib.hid (fun (o:List Int) (q:List Int×Nat) (hq:ntF s gi rs o most 1=some q)=>(ntF_some (q:=q.1) (u:=q.2) hq).1);obtain ⟨b0,b1,b2⟩:=HB.out _ _ h0;have Hm:=Lib.hid hm;have H0:=Lib.hid h0;have Hml:=Lib.hid hml;clear hJb hJs hJx hY hv hm h0 hml
 show Calls Tryz.prog 131 #[.func (.yield l) #[] #[],.pointer (some ⟨NB,0,none⟩),.pointer (some ⟨MB,0,none⟩),.pointer (some ⟨SB,0,none⟩)] W _
 refine (callsIn_wide (n:=9)).1 ?_;refine callsIn_of_wp Tryz.func131 rfl trivial ?_ rfl;simp only [Tryz.ntmps131,List.size_toArray,List.length_cons,List.length_nil,Nat.reduceAdd,Nat.reduceSub,Array.replicate_succ,Array.replicate_zero,List.push_toArray,List.append_toArray,List.nil_append,List.cons_append]
 let St:List Int->Value->Value->World->Prop:=fun o lf te wr=>match ntF s gi rs o most 1 with
  |none=>lf=.slice none 0 0/\te=.int .i64 0
  |some q=>∃ b c,lf=.slice (some ⟨b,0,none⟩) nm c/\te=.int .i64 (q.2:Nat)/\W.heap.size<=b/\Ow wr W.heap.size (some ⟨b,0,none⟩) nm c q.1
 have HSt:Hid (∀ (o:List Int) (X wr:World) (e:Ending),W.heap.size<=X.heap.size->NextPost X nm (ntF s gi rs o most 1) e wr->∃ lf te,e=.returned (.tuple #[lf,te])/\St o lf te wr/\Below X.heap.size X wr):=Lib.hid (fun o X wr e hX h=>by
  show ∃ lf te,e=.returned (.tuple #[lf,te])/\(match ntF s gi rs o most 1 with
   |none=>lf=.slice none 0 0/\te=.int .i64 0
   |some q=>∃ b c,lf=.slice (some ⟨b,0,none⟩) nm c/\te=.int .i64 (q.2:Nat)/\W.heap.size<=b/\Ow wr W.heap.size (some ⟨b,0,none⟩) nm c q.1)/\Below X.heap.size X wr
  cases hq:ntF s gi rs o most 1 with
  |none=>rw [hq] at h;exact ⟨_,_,h.1,⟨rfl,rfl⟩,h.2⟩
  |some q=>
   rw [hq] at h;obtain ⟨⟨b,c,rfl,hb,ho⟩,hbl⟩:=h
   exact ⟨_,_,rfl,⟨b,c,rfl,rfl,by omega,ho.mono hX⟩,hbl⟩)
 gi_wp2_with (first
  |(refine wpListIn_load_row rfl 94 _ rfl NB rfl 94 #[.int .i64 s,.slice At nt ct] (0,0) _ b0 Tryz.underlying94 rfl (Hi.out _ _) ?_)
  |((try refine ⟨trivial,?_⟩);gi_at_call 132;refine (callsIn_wide.2 HN0.out).mono ?_;rintro e w1 hp;obtain ⟨lf,te,rfl,hst,hb1⟩:=HSt.out _ _ _ _ (Nat.le_refl _) hp;clear hp))
 clear b0 b1 b2
 gi_loopw [5,6] (fun lf te wr=>∃ pre o,Hid (J pre wr/\roE s gi rs most m=pre++roE s gi rs most o/\mvd o s=true/\W.heap.size<=wr.heap.size)/\St o lf te wr) (fun lf te wr=>if intOf te=0 then 0 else sumAt wr lf nm+1)
 case atStart=>exact ⟨[],m,Lib.hid ⟨HJs.out _ _ _ H0.out hb1,rfl,Hm.out,hb1.size⟩,hst⟩
 case round=>
  clear hst hb1;obtain ⟨pre,o,hh,hst⟩:=hrel
  cases hq:ntF s gi rs o most 1 with
  |none=>
   simp only [St,hq] at hst;obtain ⟨rfl,rfl⟩:=hst;have HD:=Lib.hid (show roE s gi rs most m=pre by rw [hh.out.2.1,roE_none hq,List.append_nil]);clear hq
   gi_wp2
   refine ⟨fun _ h=>(by cases h),?_⟩
   gi_wp2
   go_end0
   exact ⟨⟨_,rfl⟩,.inl (by rw [HD.out];exact hh.out.1)⟩
  |some q=>
   simp only [St,hq] at hst;obtain ⟨b,c,rfl,rfl,hbW,ho⟩:=hst;obtain ⟨q,t⟩:=q;have ht1:=HT1.out o (q,t) hq;have HE:=Lib.hid (HSp.out o (q,t) hh.out.2.2.1 hq);have HU:=Lib.hid (HSu.out o (q,t) hh.out.2.2.1 hq);have HD:=Lib.hid (show ∃ tl,roE s gi rs most m=pre++(t,q)::tl from ⟨_,by rw [hh.out.2.1,HE.out]⟩);obtain ⟨fn,tmps,assign,body,hyy,hR⟩:=HY.out pre t q wr b nm c hh.out.1 HD.out hbW ho;have htn:((t:Int) != 0)=true:=(by simp;omega);have hS0:=Lib.hid (sumAt_ow ho nm (Nat.le_refl _));have htz:¬ (t:Int)=0:=(by omega);clear hq
   gi_wp2
   refine (roundIn_any hR).mono ?_;rintro e Y ⟨hYs,hYb,(⟨rfl,hj⟩|⟨rfl,hx⟩)⟩
   ·have hoY:Ow Y W.heap.size (some ⟨b,0,none⟩) nm c q:=ho.same hYb;have HNq:=Lib.hid (HN.out _ Y hj (some ⟨b,0,none⟩) c Y.heap.size q hoY.rd (Nat.le_refl _) HU.out.2.1);have hWY:=Nat.le_trans hh.out.2.2.2 hYs;have HJ2:=Lib.hid hj;have HR2:=Lib.hid (show roE s gi rs most m=(pre++[(t,q)])++roE s gi rs most q by rw [hh.out.2.1,HE.out,List.append_assoc];rfl);obtain ⟨b0,b1,b2⟩:=HB.out _ _ hj;clear hyy hR hj hYb
    gi_wp2_with (first
     |(refine wpListIn_load_row rfl 94 _ rfl NB rfl 94 #[.int .i64 s,.slice At nt ct] (0,0) _ b0 Tryz.underlying94 rfl (Hi.out _ _) ?_)
     |((try refine ⟨trivial,?_⟩);gi_at_call 132;refine (callsIn_wide.2 HNq.out).mono ?_;rintro e w1 hp;obtain ⟨lf,te,rfl,hst,hb1⟩:=HSt.out _ _ _ _ hWY hp;clear hp))
    have hsz1:=hb1.size;have hqn:=hoY.len
    have hmeas:(if intOf te=0 then 0 else sumAt w1 lf nm+1)<sumTo q nm+1:=by
     cases hq2:ntF s gi rs q most 1 with
     |none=>
      simp only [St,hq2] at hst;obtain ⟨rfl,rfl⟩:=hst
      simp [intOf]
     |some q2=>
      simp only [St,hq2] at hst;obtain ⟨b2,c2,rfl,rfl,_,ho2⟩:=hst;have e1:=sumAt_ow ho2 nm (Nat.le_refl _);have e2:=(HSu.out q q2 HU.out.2.1 hq2).2.2;rw [ho2.len,hqn] at e2;rw [e1]
      split<;>omega
    have Hmeas:=Lib.hid hmeas;clear hmeas
    gi_wp2
    refine ⟨⟨pre++[(t,q)],q,Lib.hid ⟨HJs.out _ _ _ HJ2.out hb1,HR2.out,HU.out.2.1,by omega⟩,hst⟩,?_⟩;have e1:intOf (Value.int IntKind.i64 (t:Nat))=(t:Nat):=rfl;rw [e1,if_neg htz,hS0.out];exact Hmeas.out
   ·gi_wp2
    go_end0
    exact ⟨⟨_,rfl⟩,.inr hx⟩
theorem rounds_any (s:Nat) (At:Option Addr) (nt ct:Nat) (Am:Option Addr) (nm cm:Nat) (most:Nat) (w:World):
 Calls Tryz.prog 81 #[.agg #[.int .i64 s,.slice At nt ct],.slice Am nm cm,.int .i64 most] w fun e w'=>∃ NB MB SB,e=.returned (.func (.func 131) #[] #[.pointer (some ⟨NB,0,none⟩),.pointer (some ⟨MB,0,none⟩),.pointer (some ⟨SB,0,none⟩)])/\w'.heap[NB]? =some (.cells #[.int .i64 s,.slice At nt ct] 94)/\w'.cell? ⟨MB,0,none⟩=some (.slice Am nm cm)/\w'.cell? ⟨SB,0,none⟩=some (.int .i64 most)/\w.heap.size<=NB/\w.heap.size<=MB/\w.heap.size<=SB/\Below w.heap.size w w':=by
 obtain ⟨Wa,hWa⟩:∃ Wa,w.alloc (.cells #[.int .i64 s,.slice At nt ct] 94)=Wa:=⟨_,rfl⟩
 have hba:Below w.heap.size w Wa:=by rw [<- hWa];exact (Below.refl _ _).alloc (Nat.le_refl _) _
 have hsa:Wa.heap.size=w.heap.size+1:=by rw [<- hWa];simp
 have hra:Wa.heap[w.heap.size]? =some (.cells #[.int .i64 s,.slice At nt ct] 94):=by rw [<- hWa];exact heap_alloc_new w _
 obtain ⟨Wb,hWb⟩:∃ Wb,Wa.alloc (.cells #[.slice Am nm cm] 23)=Wb:=⟨_,rfl⟩
 have hbb:Below Wa.heap.size Wa Wb:=by rw [<- hWb];exact (Below.refl _ _).alloc (Nat.le_refl _) _
 have hsb:Wb.heap.size=w.heap.size+1+1:=by rw [<- hWb];simp [hsa]
 have hrb:Wb.heap[w.heap.size+1]? =some (.cells #[.slice Am nm cm] 23):=by rw [<- hWb,<-hsa];exact heap_alloc_new Wa _
 obtain ⟨Wc,hWc⟩:∃ Wc,Wb.alloc (.cells #[.int .i64 most] 3)=Wc:=⟨_,rfl⟩
 have hbc:Below Wb.heap.size Wb Wc:=by rw [<- hWc];exact (Below.refl _ _).alloc (Nat.le_refl _) _
 have hrc:Wc.heap[w.heap.size+1+1]? =some (.cells #[.int .i64 most] 3):=by rw [<- hWc,<-hsb];exact heap_alloc_new Wb _
 have HA:=Lib.hid ((hbc.block w.heap.size (by omega)).trans ((hbb.block w.heap.size (by omega)).trans hra));have HB:=Lib.hid (cell_of_row _ _ 0 _ _ (0,0) ((hbc.block (w.heap.size+1) (by omega)).trans hrb));have HC:=Lib.hid (cell_of_row _ _ 0 _ _ (0,0) hrc);have HD:=Lib.hid ((hba.trans (hbb.mono (by omega))).trans (hbc.mono (by omega)));clear hba hra hbb hrb hbc hrc
 go_enter Tryz.func81,Tryz.ntmps81
 go_wp2
 go_ret
 exact ⟨w.heap.size,w.heap.size+1,w.heap.size+1+1,rfl,HA.out,HB.out,HC.out,by omega,by omega,by omega,HD.out⟩
end Go.Proofs.YtkeoflnmbcdmfaaGreatDoor
