import Derived.Test.YtkeoflnmbcdmfaaGreatDoorHBVl
namespace Go.Proofs.YtkeoflnmbcdmfaaGreatDoor
open Go.ChangeShapes Go.WideShapes Go.ChangeAt Go.RowKit
def ccells (C:Nat->Nat) (s:Int):Array Value:= #[.int .i64 (C 0),.int .i64 (C 1),.int .i64 (C 2),.int .i64 (C 3),.int .i64 (C 4),.int .i64 (C 5),.int .i64 (C 6),.int .i64 (C 7),.int .i64 (C 8),.int .i64 (C 9),.int .i64 (C 10),.int .i64 (C 11),.int .i64 (C 12),.int .i64 (C 13),.int .i64 (C 14),.int .i64 (C 15),.int .i64 (C 16),.int .i64 (C 17),.int .i64 (C 18),.int .i64 (C 19),.int .i64 (C 20),.int .i64 (C 21),.int .i64 (C 22),.int .i64 (C 23),.int .i64 (C 24),.int .i64 (C 25),.int .i64 (C 26),.int .i64 (C 27),.int .i64 (C 28),.int .i64 (C 29),.int .i64 (C 30),.int .i64 (C 31),.int .i64 (C 32),.int .i64 (C 33),.int .i64 (C 34),.int .i64 (C 35),.int .i64 (C 36),.int .i64 (C 37),.int .i64 (C 38),.int .i64 (C 39),.int .i64 s]
theorem ccells_size (C:Nat->Nat) (s:Int):(ccells C s).size=41:=rfl
theorem ccell_at (C:Nat->Nat) (s:Int):∀ {l:Nat},l<40->(ccells C s)[l]? =some (.int .i64 (C l))
 |0,_=>rfl
 |1,_=>rfl
 |2,_=>rfl
 |3,_=>rfl
 |4,_=>rfl
 |5,_=>rfl
 |6,_=>rfl
 |7,_=>rfl
 |8,_=>rfl
 |9,_=>rfl
 |10,_=>rfl
 |11,_=>rfl
 |12,_=>rfl
 |13,_=>rfl
 |14,_=>rfl
 |15,_=>rfl
 |16,_=>rfl
 |17,_=>rfl
 |18,_=>rfl
 |19,_=>rfl
 |20,_=>rfl
 |21,_=>rfl
 |22,_=>rfl
 |23,_=>rfl
 |24,_=>rfl
 |25,_=>rfl
 |26,_=>rfl
 |27,_=>rfl
 |28,_=>rfl
 |29,_=>rfl
 |30,_=>rfl
 |31,_=>rfl
 |32,_=>rfl
 |33,_=>rfl
 |34,_=>rfl
 |35,_=>rfl
 |36,_=>rfl
 |37,_=>rfl
 |38,_=>rfl
 |39,_=>rfl
 |n+40,h=>absurd h (by omega)
theorem ccells_set (C:Nat->Nat) (s:Int):∀ {l:Nat},l<40->(ccells C s).setIfInBounds l (.int .i64 ((C l+1:Nat):Int))=ccells (bump C l) s
 |0,_=>rfl
 |1,_=>rfl
 |2,_=>rfl
 |3,_=>rfl
 |4,_=>rfl
 |5,_=>rfl
 |6,_=>rfl
 |7,_=>rfl
 |8,_=>rfl
 |9,_=>rfl
 |10,_=>rfl
 |11,_=>rfl
 |12,_=>rfl
 |13,_=>rfl
 |14,_=>rfl
 |15,_=>rfl
 |16,_=>rfl
 |17,_=>rfl
 |18,_=>rfl
 |19,_=>rfl
 |20,_=>rfl
 |21,_=>rfl
 |22,_=>rfl
 |23,_=>rfl
 |24,_=>rfl
 |25,_=>rfl
 |26,_=>rfl
 |27,_=>rfl
 |28,_=>rfl
 |29,_=>rfl
 |30,_=>rfl
 |31,_=>rfl
 |32,_=>rfl
 |33,_=>rfl
 |34,_=>rfl
 |35,_=>rfl
 |36,_=>rfl
 |37,_=>rfl
 |38,_=>rfl
 |39,_=>rfl
 |n+40,h=>absurd h (by omega)
theorem cone (C:Nat->Nat) (s:Int):(ccells C s).all (·.oneCell')=true:=by simp [ccells,Value.oneCell']
def CBox (w:World) (g:Nat) (C:Nat->Nat) (s:Int):Prop:=w.heap[g]? =some (.cells (ccells C s) 191)
section
variable {w w' : World} {g : Nat} {C : Nat → Nat} {s : Int}
theorem CBox.lt (h:CBox w g C s):g<w.heap.size:=(Array.getElem?_eq_some_iff.1 h).1
theorem CBox.cell (h:CBox w g C s) {l:Nat} (hl:l<40):w.cell? ⟨g,l,none⟩=some (.int .i64 (C l)):=
 (cell_of_row _ _ l _ _ (0,0) h).trans (ccell_at C s hl)
theorem CBox.size_ (h:CBox w g C s):w.cell? ⟨g,40,none⟩=some (.int .i64 s):=
 (cell_of_row _ _ 40 _ _ (0,0) h).trans rfl
theorem CBox.frozen (h:CBox w g C s) (l:Nat):w.frozen? ⟨g,l,none⟩=false:=by
 unfold World.frozen?;rw [show w.heap[g]? =_ from h]
 simp
theorem CBox.set (h:CBox w g C s) {l:Nat} (hl:l<40):CBox (w.setCell ⟨g,l,none⟩ (.int .i64 ((C l:Int)+1))) g (bump C l) s:=by
 show CBox (w.setCell ⟨g,l,none⟩ (.int .i64 ((C l+1:Nat):Int))) g (bump C l) s
 unfold CBox;rw [heap_setCell_same w g l _ _ _ h,<-ccells_set C s hl]
theorem CBox.below {B:Nat} (h:CBox w g C s) (hg:g<B) (hb:Below B w w'):CBox w' g C s:=(hb.block g hg).trans h
theorem CBox.other {g' k:Nat} {v:Value} (h:CBox w g C s) (hne:g≠g'):CBox (w.setCell ⟨g',k,none⟩ v) g C s:=(heap_setCell_other w _ g v hne).trans h
theorem CBox.stored {C':Nat->Nat} {s':Int} (h:CBox w g C s):CBox (w.setRow g (ccells C' s')) g C' s':=setRow_heap w g _ _ _ _ h
end
theorem cinfo (C:Nat->Nat) (s:Int):(Tryz.prog.info? 191).map (·.size)=some (ccells C s).size:=by rw [ccells_size];kernel_rfl
def czero (s:Int):Array Value:= #[.int .i64 0,.int .i64 0,.int .i64 0,.int .i64 0,.int .i64 0,.int .i64 0,.int .i64 0,.int .i64 0,.int .i64 0,.int .i64 0,.int .i64 0,.int .i64 0,.int .i64 0,.int .i64 0,.int .i64 0,.int .i64 0,.int .i64 0,.int .i64 0,.int .i64 0,.int .i64 0,.int .i64 0,.int .i64 0,.int .i64 0,.int .i64 0,.int .i64 0,.int .i64 0,.int .i64 0,.int .i64 0,.int .i64 0,.int .i64 0,.int .i64 0,.int .i64 0,.int .i64 0,.int .i64 0,.int .i64 0,.int .i64 0,.int .i64 0,.int .i64 0,.int .i64 0,.int .i64 0,.int .i64 s]
theorem czero_is (s:Int):czero s=ccells (fun _=>0) s:=by
 unfold czero ccells
 simp
def cstart (A:Option Addr) (n c:Nat) (s:Int) (w:World):World:=((w.alloc (.cells #[.slice A n c,.int .i64 s] 75)).alloc (.cells (czero 0) 191)).alloc (.cells (czero 0) 191)
theorem cstart_facts (A:Option Addr) (n c:Nat) (s:Int) (w:World):CBox (cstart A n c s w) (w.heap.size+1+1) (fun _=>0) 0/\CBox (cstart A n c s w) (w.heap.size+1) (fun _=>0) 0/\(cstart A n c s w).cell? ⟨w.heap.size,0,none⟩=some (.slice A n c)/\(cstart A n c s w).cell? ⟨w.heap.size,1,none⟩=some (.int .i64 s)/\Below w.heap.size w (cstart A n c s w):=by
 unfold cstart;rw [czero_is];refine ⟨?_,?_,?_,?_,(((Below.refl _ _).alloc (Nat.le_refl _) _).alloc (by simp) _).alloc (by simp;omega) _⟩
 ·have:=heap_alloc_new ((w.alloc (Obj.cells #[Value.slice A n c,Value.int IntKind.i64 s] 75)).alloc (Obj.cells (ccells (fun _=>0) 0) 191)) (.cells (ccells (fun _=>0) 0) 191);simp only [World.size_alloc] at this;exact this
 ·have:=heap_alloc_new (w.alloc (Obj.cells #[Value.slice A n c,Value.int IntKind.i64 s] 75)) (.cells (ccells (fun _=>0) 0) 191);simp only [World.size_alloc] at this;exact (heap_alloc_old _ _ (by simp)).trans this
 ·refine (cell_of_row _ _ 0 #[.slice A n c,.int .i64 s] 75 (0,0) ?_).trans rfl;rw [heap_alloc_old _ _ (by simp;omega),heap_alloc_old _ _ (by simp)];exact heap_alloc_new w _
 ·refine (cell_of_row _ _ 1 #[.slice A n c,.int .i64 s] 75 (0,0) ?_).trans rfl;rw [heap_alloc_old _ _ (by simp;omega),heap_alloc_old _ _ (by simp)];exact heap_alloc_new w _
theorem cell_other {w:World} {g g' k j:Nat} {v:Value} (h:g≠g'):(w.setCell ⟨g',k,none⟩ v).cell? ⟨g,j,none⟩=w.cell? ⟨g,j,none⟩:=by
 unfold World.cell?;rw [heap_setCell_other w ⟨g',k,none⟩ g v h]
theorem setRow_cell {w:World} {g:Nat} {cs:Array Value} {p:Addr} (h:p.block≠g):(w.setRow g cs).cell? p=w.cell? p:=cell_setRow_other w g cs p h
theorem CBox.row_other {w:World} {g g':Nat} {cs:Array Value} {C:Nat->Nat} {s:Int} (h:CBox w g C s) (hne:g≠g'):CBox (w.setRow g' cs) g C s:=by
 unfold CBox World.setRow;simp only [Array.getElem?_modify];rw [if_neg (fun e=>hne e.symm)];exact h
theorem counted_any (A:Option Addr) (c n B s:Nat) (xs:List Int) (w:World) (h:Rd w B A n xs) (hB:B<=w.heap.size) (hs:s∈[2,3,4]) (hn:n=s*s) (hok:Hid (okAll xs s n)):
 Calls Tryz.prog 191 #[.agg #[.slice A n c,.int .i64 s]] w fun e w'=>e=.returned (.agg (ccells (cnt xs s n) s))/\Below w.heap.size w w':=by
 have hs2:2<=s:=by simp at hs;omega
 have hs4:s<=4:=by simp at hs;omega
 have hn16:n<=16:=by simp at hs;rcases hs with rfl|rfl|rfl<;>omega
 have Hn:=Lib.hid hn;clear hn;have Hi:=Lib.hid (fun C=>cinfo C s);have Hone:=Lib.hid (fun C=>cone C s);obtain ⟨hx0,hy0,hc00,hc01,hb0⟩:=cstart_facts A n c s w;have hz2:(((w.alloc (.cells #[.slice A n c,.int .i64 (s:Int)] 75)).alloc (.cells #[.int .i64 0,.int .i64 0,.int .i64 0,.int .i64 0,.int .i64 0,.int .i64 0,.int .i64 0,.int .i64 0,.int .i64 0,.int .i64 0,.int .i64 0,.int .i64 0,.int .i64 0,.int .i64 0,.int .i64 0,.int .i64 0,.int .i64 0,.int .i64 0,.int .i64 0,.int .i64 0,.int .i64 0,.int .i64 0,.int .i64 0,.int .i64 0,.int .i64 0,.int .i64 0,.int .i64 0,.int .i64 0,.int .i64 0,.int .i64 0,.int .i64 0,.int .i64 0,.int .i64 0,.int .i64 0,.int .i64 0,.int .i64 0,.int .i64 0,.int .i64 0,.int .i64 0,.int .i64 0,.int .i64 0] 191)).alloc (.cells #[.int .i64 0,.int .i64 0,.int .i64 0,.int .i64 0,.int .i64 0,.int .i64 0,.int .i64 0,.int .i64 0,.int .i64 0,.int .i64 0,.int .i64 0,.int .i64 0,.int .i64 0,.int .i64 0,.int .i64 0,.int .i64 0,.int .i64 0,.int .i64 0,.int .i64 0,.int .i64 0,.int .i64 0,.int .i64 0,.int .i64 0,.int .i64 0,.int .i64 0,.int .i64 0,.int .i64 0,.int .i64 0,.int .i64 0,.int .i64 0,.int .i64 0,.int .i64 0,.int .i64 0,.int .i64 0,.int .i64 0,.int .i64 0,.int .i64 0,.int .i64 0,.int .i64 0,.int .i64 0,.int .i64 0] 191)).heap[w.heap.size+1+1]? =some (.cells (ccells (fun _=>0) 0) 191 (0,0)):=hx0
 have Hz2:=Lib.hid hz2;clear hz2
 have key:∀ w0,(cstart A n c s w).setRow (w.heap.size+1+1) (ccells (fun _=>0) s)=w0->CBox w0 (w.heap.size+1+1) (fun _=>0) s/\CBox w0 (w.heap.size+1) (fun _=>0) 0/\w0.cell? ⟨w.heap.size,0,none⟩=some (.slice A n c)/\w0.cell? ⟨w.heap.size,1,none⟩=some (.int .i64 s)/\Below w.heap.size w w0:=by
  rintro w0 rfl;exact ⟨hx0.stored,hy0.row_other (by omega),(setRow_cell (by simp;omega)).trans hc00,(setRow_cell (by simp;omega)).trans hc01,setRow_below hb0 (by omega)⟩
 have Key:=Lib.hid key;clear key hx0 hy0 hc00 hc01 hb0
 go_enter Tryz.func191,Tryz.ntmps191
 go_wp2_with (refine wpList_store_row rfl 191 _ _ rfl (w.heap.size+1+1) (ccells (fun _=>0) s) rfl rfl 191 (ccells (fun _=>0) 0) Hz2.out (Hi.out _) rfl (Hone.out _) ?_;generalize Value.agg #[.int .i64 0,.int .i64 0,.int .i64 0,.int .i64 0,.int .i64 0,.int .i64 0,.int .i64 0,.int .i64 0,.int .i64 0,.int .i64 0,.int .i64 0,.int .i64 0,.int .i64 0,.int .i64 0,.int .i64 0,.int .i64 0,.int .i64 0,.int .i64 0,.int .i64 0,.int .i64 0,.int .i64 0,.int .i64 0,.int .i64 0,.int .i64 0,.int .i64 0,.int .i64 0,.int .i64 0,.int .i64 0,.int .i64 0,.int .i64 0,.int .i64 0,.int .i64 0,.int .i64 0,.int .i64 0,.int .i64 0,.int .i64 0,.int .i64 0,.int .i64 0,.int .i64 0,.int .i64 0,.int .i64 (s:Int)]=V;generalize hw0:World.setRow _ _ _=w0;obtain ⟨hx0,hy0,hc00,hc01,hb0⟩:=Key.out _ hw0;clear hw0)
 clear Hz2 Key
 go_loopw [14] (fun i wr=>∃ k:Nat,k<=n/\i=.int .i64 k/\Hid (CBox wr (w.heap.size+1+1) (cnt xs s k) s)/\Hid (CBox wr (w.heap.size+1) (fun _=>0) 0)/\wr.cell? ⟨w.heap.size,1,none⟩=some (.int .i64 s)/\Below w.heap.size w wr) (fun i _=>n-(intOf i).toNat)
 case atStart=>exact ⟨0,Nat.zero_le _,rfl,Lib.hid hx0,Lib.hid hy0,hc01,hb0⟩
 case round=>
  obtain ⟨k,hk,rfl,hx,hy,hc1,hB0⟩:=hrel
  by_cases hlt:k<n
  ·obtain ⟨b,off,rfl,hbB,hck⟩:=(h.below (hB0.mono hB)).at_ hlt;obtain ⟨x0,x4⟩:=hok.out k hlt;obtain ⟨v,hv⟩:=Int.eq_ofNat_of_zero_le x0;rw [hv] at hck;have hv4:v<=4:=(by omega);obtain ⟨hr8,hc8⟩:=rc_lt s hs k (by have:=Hn.out;omega);have Hr:Hid ((k:Int)/(s:Int)=((k/s:Nat):Int)):=Lib.hid (by simp);have Hc:Hid ((s:Int)+(k:Int)%(s:Int)=((s+k%s:Nat):Int)):=Lib.hid (by simp);obtain ⟨r,hr⟩:∃ r,r=k/s:=⟨_,rfl⟩;obtain ⟨q,hq⟩:∃ q,q=s+k%s:=⟨_,rfl⟩;have hstep:=Lib.hid (show cnt xs s (k+1)=bump (bump (cnt xs s k) (r*5+v)) (q*5+v) by simp only [cnt,hv,hr,hq,Int.toNat_natCast])
   rw [<- hr] at Hr hr8;rw [<- hq] at Hc hc8;have hl1:=cnt_le xs s k (r*5+v)
   have hl2:bump (cnt xs s k) (r*5+v) (q*5+v)<=2*k+1:=by
    have:=bump_le (cnt xs s k) (r*5+v) (q*5+v);have:=cnt_le xs s k (q*5+v);omega
   clear hr hq
   go_wp2_with (go_at_call 160;refine (linesThrough_rc s k r q _ (by omega) (by omega) (by omega) Hr.out Hc.out).mono ?_;rintro e w1 ⟨rfl,hb1⟩)
   have hx1:=Lib.hid (CBox.below hx.out hx.out.lt hb1);have hy1:=Lib.hid (CBox.below hy.out hy.out.lt hb1);have hB1:=step hB0 hb1;have hk1:=hx1.out.cell (l:=r*5+v) (by omega);have hf1:=hx1.out.frozen (r*5+v);have hr8':(r:Int)<8:=(by omega);have hq8':(q:Int)<8:=(by omega);have hv5':(v:Int)<5:=(by omega);have hc11:w1.cell? ⟨w.heap.size,1,none⟩=some (.int .i64 s):=(hb1.cell (p:=⟨w.heap.size,1,none⟩) (by have:=hx.out.lt;show w.heap.size<_;omega)).trans hc1
   go_region
   go_wp2
   obtain ⟨w2,hw2⟩:∃ w2,w2=(w1.setCell ⟨w.heap.size+1+1,r*5+v,none⟩ (.int .i64 ((cnt xs s k (r*5+v):Int)+1))).drew:=⟨_,rfl⟩;rw [<- hw2];have hx2:CBox w2 (w.heap.size+1+1) (bump (cnt xs s k) (r*5+v)) s:=(by rw [hw2];exact hx1.out.set (by omega));have hy2:CBox w2 (w.heap.size+1) (fun _=>0) 0:=(by rw [hw2];exact hy1.out.other (by omega));have hB2:Below w.heap.size w w2:=(by rw [hw2];exact below_drewN (hB1.setCell (by simp;omega) _) 1);have hsz2:w.heap.size<w2.heap.size:=(by have:=hx2.lt;omega);have hc2:w2.cell? ⟨w.heap.size,1,none⟩=some (.int .i64 s):=(by rw [hw2];exact (cell_other (by omega)).trans hc11)
   clear hw2 hk1 hf1;have hk2:=hx2.cell (l:=q*5+v) (by omega);have hf2:=hx2.frozen (q*5+v);have hx3:=Lib.hid (hx2.set (l:=q*5+v) (by omega));have hy3:=Lib.hid (hy2.other (k:=q*5+v) (v:=(.int .i64 ((bump (cnt xs s k) (r*5+v) (q*5+v):Int)+1))) (show w.heap.size+1≠w.heap.size+1+1 by omega));have hB3:=below_drewN (Below.setCell (p:=(⟨w.heap.size+1+1,q*5+v,none⟩:Addr)) hB2 (by simp;omega) (.int .i64 ((bump (cnt xs s k) (r*5+v) (q*5+v):Int)+1))) 1;have hc3:(w2.setCell ⟨w.heap.size+1+1,q*5+v,none⟩ (.int .i64 ((bump (cnt xs s k) (r*5+v) (q*5+v):Int)+1))).cell? ⟨w.heap.size,1,none⟩=some (.int .i64 s):=(cell_other (by omega)).trans hc2
   go_region
   go_wp2
   go_roundw
   case rel=>exact ⟨k+1,by omega,by go_num,by rw [hstep.out];exact hx3,hy3,hc3,hB3⟩
   case measure=>simp [intOf];omega
  ·obtain rfl:k=n:=by omega
   have hxf:=Lib.hid (CBox.stored (C':=cnt xs s k) (s':=s) hy.out);have hBe:=setRow_below (g:=w.heap.size+1) (cs:=ccells (cnt xs s k) s) hB0 (by omega)
   go_wp2_with (first|(refine wpList_load_row rfl 191 _ rfl (w.heap.size+1+1) rfl 191 (ccells (cnt xs s k) s) (0,0) _ hx.out Tryz.underlying191 rfl (Hi.out _) ?_)|(refine wpList_store_row rfl 191 _ _ rfl (w.heap.size+1) (ccells (cnt xs s k) s) rfl rfl 191 (ccells (fun _=>0) 0) hy.out (Hi.out _) rfl (Hone.out _) ?_))
   refine bodyPost_ret (v:=.agg (ccells (cnt xs s k) s)) (results_cell_row (by rfl) _ _ (w.heap.size+1) 191 _ (0,0) _ rfl hxf.out Tryz.underlying191 rfl (Hi.out _)) rfl ⟨rfl,hBe⟩
theorem free_any (C:Nat->Nat) (s cell r q:Nat) (w:World) (h2:2<=s) (h4:s<=4) (hr:Hid ((cell:Int)/(s:Int)=(r:Int))) (hq:Hid ((s:Int)+(cell:Int)%(s:Int)=(q:Int))) (r8:r<8) (q8:q<8) (c2:cell<16) (hC:∀ j,C j<=64):
 Calls Tryz.prog 192 #[.agg (ccells C s),.int .i64 cell] w fun e w'=>e=.returned (.int .i64 (freeTo C r q s:Int))/\Below w.heap.size w w':=by
 have hx0:CBox (w.alloc (.cells (ccells C s) 191)) w.heap.size C s:=heap_alloc_new w _;have hb0:Below w.heap.size w (w.alloc (.cells (ccells C s) 191)):=(Below.refl _ _).alloc (Nat.le_refl _) _;have hs40:=hx0.size_;have Hx0:=Lib.hid hx0;clear hx0
 go_enter Tryz.func192,Tryz.ntmps192
 go_wp2_with (go_at_call 160;refine (linesThrough_rc s cell r q _ (by omega) (by omega) c2 hr.out hq.out).mono ?_;rintro e w1 ⟨rfl,hb1⟩)
 have hx1:=Lib.hid (CBox.below Hx0.out Hx0.out.lt hb1);have hB1:=step hb0 hb1;clear hb1 hs40
 go_loopw [7,8] (fun m i wr=>∃ v:Nat,v<=s/\i=.int .i64 ((v:Int)+1)/\m=.int .i64 (freeTo C r q v:Int)/\Hid (CBox wr w.heap.size C s)/\Below w.heap.size w wr) (fun _ i _=>(s+1-intOf i).toNat)
 case atStart=>exact ⟨0,by omega,rfl,rfl,hx1,hB1⟩
 case round=>
  obtain ⟨v,hv,rfl,rfl,hx,hb⟩:=hrel;have hk40:=hx.out.size_
  by_cases hlt:v<s
  ·have hk1:=hx.out.cell (l:=r*5+(v+1)) (by omega);have hk2:=hx.out.cell (l:=q*5+(v+1)) (by omega);have e1:((v:Int)+1).toNat=v+1:=(by omega);have e2:IntKind.i64.wrap ((v:Int)+1)=(v:Int)+1:=IntWalk.i64_in _ (by omega);have e3:(0:Int)<=(v:Int)+1:=(by omega);have e4:(v:Int)+1<5:=(by omega);have r8':(r:Int)<8:=(by omega);have q8':(q:Int)<8:=(by omega);have hc1:=hC (r*5+(v+1));have hc2:=hC (q*5+(v+1));have e5:IntKind.i64.wrap ((C (r*5+(v+1)):Int)+(C (q*5+(v+1)):Int))=(C (r*5+(v+1)):Int)+(C (q*5+(v+1)):Int):=IntWalk.i64_in _ (by omega)
   have hlt32:=freeTo_lt C r q v (by omega);have hor:=or_int (freeTo C r q v) (v+1) hlt32 (by omega)
   have hstep:freeTo C r q (v+1)=if C (r*5+(v+1))+C (q*5+(v+1))=0 then freeTo C r q v|||2^(v+1) else freeTo C r q v:=rfl
   by_cases ho:C (r*5+(v+1))+C (q*5+(v+1))=0
   ·have ht:((C (r*5+(v+1)):Int)+(C (q*5+(v+1)):Int)==0)=true:=(by rw [beq_iff_eq];omega);have Hst:=Lib.hid (show freeTo C r q (v+1)=freeTo C r q v|||2^(v+1) by rw [hstep,if_pos ho]);clear hstep ho hc1 hc2
    go_wp2
    go_quiet (fail)
    go_wp2
    go_roundw
    case rel=>exact ⟨v+1,by omega,by go_num,by rw [Hst.out],Lib.hid (CBox.below hx.out hx.out.lt (below_drewN (Below.refl _ _) _)),below_drewN hb _⟩
    case measure=>simp [intOf];omega
   ·have ht:((C (r*5+(v+1)):Int)+(C (q*5+(v+1)):Int)==0)=false:=(by rw [beq_eq_false_iff_ne];omega);have Hst:=Lib.hid (show freeTo C r q (v+1)=freeTo C r q v by rw [hstep,if_neg ho]);clear hstep ho hc1 hc2
    go_wp2
    go_quiet (fail)
    go_wp2
    go_roundw
    case rel=>exact ⟨v+1,by omega,by go_num,by rw [Hst.out],Lib.hid (CBox.below hx.out hx.out.lt (below_drewN (Below.refl _ _) _)),below_drewN hb _⟩
    case measure=>simp [intOf];omega
  ·obtain rfl:v=s:=by omega
   go_wp2
   go_ret
   exact ⟨rfl,hb⟩
theorem cz_key (A:Option Addr) (n c:Nat) (s:Int) (C:Nat->Nat) (w w1:World) (hb1:Below (w.alloc (.cells #[.slice A n c,.int .i64 s] 75)).heap.size (w.alloc (.cells #[.slice A n c,.int .i64 s] 75)) w1) (w2:World)
 (h2:(w1.alloc (.cells (czero 0) 191)).setRow w1.heap.size (ccells C s)=w2):CBox w2 w1.heap.size C s/\w2.cell? ⟨w.heap.size,0,none⟩=some (.slice A n c)/\Below w.heap.size w w2/\w.heap.size<w1.heap.size/\w1.heap.size<w2.heap.size:=by
 subst h2
 have hlt:w.heap.size<w1.heap.size:=by have:=hb1.size;rw [World.size_alloc] at this;omega
 have hz:CBox (w1.alloc (.cells (czero 0) 191)) w1.heap.size (fun _=>0) 0:=by rw [czero_is];exact heap_alloc_new w1 _
 have hB1:=step ((Below.refl w.heap.size w).alloc (Nat.le_refl _) _) hb1;refine ⟨hz.stored,?_,setRow_below (hB1.alloc hB1.size _) hB1.size,hlt,by simp⟩;refine (setRow_cell (by show w.heap.size≠w1.heap.size;omega)).trans ?_;have hc:=box_cell hb1 0;refine ((((Below.refl w1.heap.size w1).alloc (Nat.le_refl _) (.cells (czero 0) 191)).cell (p:=⟨w.heap.size,0,none⟩) hlt).trans hc)
theorem candidates_any (A:Option Addr) (c n B s:Nat) (xs:List Int) (w:World) (h:Rd w B A n xs) (hB:B<=w.heap.size) (hs:s∈[2,3,4]) (hn:n=s*s) (hok:Hid (okAll xs s n)):
 Calls Tryz.prog 182 #[.agg #[.slice A n c,.int .i64 s]] w (RetSl w (mapTo (candG xs s) n)):=by
 obtain ⟨i0,hi,hz0,hz1,hz2⟩:=info_parts int_info
 have hs2:2<=s:=by simp at hs;omega
 have hs4:s<=4:=by simp at hs;omega
 have hn16:n<=16:=by simp at hs;rcases hs with rfl|rfl|rfl<;>omega
 have Hn:=Lib.hid hn;clear hn;have Hi:=Lib.hid (fun C=>cinfo C s);have Hone:=Lib.hid (fun C=>cone C s)
 have hzz:∀ u:World,(u.alloc (.cells #[.int .i64 0,.int .i64 0,.int .i64 0,.int .i64 0,.int .i64 0,.int .i64 0,.int .i64 0,.int .i64 0,.int .i64 0,.int .i64 0,.int .i64 0,.int .i64 0,.int .i64 0,.int .i64 0,.int .i64 0,.int .i64 0,.int .i64 0,.int .i64 0,.int .i64 0,.int .i64 0,.int .i64 0,.int .i64 0,.int .i64 0,.int .i64 0,.int .i64 0,.int .i64 0,.int .i64 0,.int .i64 0,.int .i64 0,.int .i64 0,.int .i64 0,.int .i64 0,.int .i64 0,.int .i64 0,.int .i64 0,.int .i64 0,.int .i64 0,.int .i64 0,.int .i64 0,.int .i64 0,.int .i64 0] 191)).heap[u.heap.size]? =some (.cells (ccells (fun _=>0) 0) 191 (0,0)):=fun u=>heap_alloc_new u _
 have Hzz:=Lib.hid hzz;clear hzz;have Key:=Lib.hid (fun w1=>cz_key A n c (s:Int) (cnt xs s n) w w1);have h1:=h.alloc hB (.cells #[.slice A n c,.int .i64 s] 75)
 have hB1:B<=(w.alloc (.cells #[.slice A n c,.int .i64 s] 75)).heap.size:=by simp;omega
 go_enter Tryz.func182,Tryz.ntmps182
 go_wp2_with (first
  |(go_at_call 191;refine (counted_any _ _ _ _ _ _ _ h1 hB1 hs Hn.out hok).mono ?_;rintro e w1 ⟨rfl,hb1⟩)
  |(refine wpList_store_row rfl 191 _ _ rfl w1.heap.size (ccells (cnt xs s n) s) rfl rfl 191 (ccells (fun _=>0) 0) (Hzz.out w1) (Hi.out _) rfl (Hone.out _) ?_;generalize hw0:World.setRow _ _ _=w2;obtain ⟨hx2,hc2,hb2,hg1,hg2⟩:=Key.out w1 hb1 w2 hw0;clear hw0 hb1)
  |(refine wpList_make_full _ rfl (.tmp 11) (.tmp 11) 23 rfl w.heap.size 3 i0 (.int .i64 0) 1 Tryz.underlying23 hi hz0 hz1 .i64 .i64 n n n rfl rfl rfl rfl (by rw [hz2];omega) (by simp only [maxLen];omega) hb2.size ?_;intro w3 hown hgr;have hc3:=(made_below hgr (Nat.le_refl _)).cell (p:=⟨w.heap.size,0,none⟩) (by show w.heap.size<w2.heap.size;omega);rw [hc2] at hc3))
 have ho3:=made_part (mapTo (candG xs s) n) hown;have hb3':=made_below hgr (Nat.le_refl _);have hx3:=Lib.hid (CBox.below hx2 hg2 hb3');have hb3:=step hb2 hb3';obtain ⟨G,hG⟩:∃ G,G=w1.heap.size:=⟨_,rfl⟩;obtain ⟨M,hM⟩:∃ M,M=w2.heap.size:=⟨_,rfl⟩;rw [<- hM] at ho3;rw [<- hG] at hx3;rw [<- hG,<-hM]
 have hne:G≠M:=by omega
 have hlo:w.heap.size<=M:=by omega
 clear hown hgr hb3' hx2 hc2 hc3 hb2 Key Hzz hz0 hz1 hz2 hi hG hM hg1 hg2
 go_loopw [16] (fun i wr=>∃ k:Nat,k<=n/\i=.int .i64 k/\Ow wr w.heap.size (some ⟨M,0,none⟩) n n (part (mapTo (candG xs s) n) k n)/\Hid (CBox wr G (cnt xs s n) s)/\Below w.heap.size w wr) (fun i _=>n-(intOf i).toNat)
 case atStart=>exact ⟨0,Nat.zero_le _,rfl,ho3,hx3,hb3⟩
 case round=>
  obtain ⟨k,hk,rfl,ho,hx,hb⟩:=hrel
  by_cases hlt:k<n
  ·obtain ⟨b,off,rfl,hbB,hck⟩:=(h.below (hb.mono hB)).at_ hlt;obtain ⟨x0,x4⟩:=hok.out k hlt;obtain ⟨v,hv⟩:=Int.eq_ofNat_of_zero_le x0;rw [hv] at hck;have hst:=(World.ownsRow.stored ho k (.int .i64 (nth (mapTo (candG xs s) n) k))).1;rw [part_set,mapTo_nth hlt] at hst;have hfill:=hst
   have hx6:∀ v:Value,Hid (CBox (wr.setCell ⟨M,k,none⟩ v) G (cnt xs s n) s):=fun v=>Lib.hid (hx.out.other hne)
   by_cases hz:v=0
   ·subst hz;obtain ⟨hr8,hc8⟩:=rc_lt s hs k (by have:=Hn.out;omega);have Hr:Hid ((k:Int)/(s:Int)=((k/s:Nat):Int)):=Lib.hid (by simp);have Hc:Hid ((s:Int)+(k:Int)%(s:Int)=((s+k%s:Nat):Int)):=Lib.hid (by simp)
    have Hg:=Lib.hid (show ((freeTo (cnt xs s n) (k/s) (s+k%s) s:Nat):Int)=candG xs s k by
     rw [free_cand hs Hn.out hok.out hlt (by rw [hv];rfl) s (Nat.le_refl _)];simp only [candG,candN,hv,Int.toNat_natCast]
     rw [if_neg (by decide)])
    have hC:∀ j,cnt xs s n j<=64:=fun j=>by have:=cnt_le xs s n j;omega
    have HC:=Lib.hid hC;clear hC hst hfill
    go_wp2_with (first
     |(refine wpList_load_row rfl 191 _ rfl G rfl 191 (ccells (cnt xs s n) s) (0,0) _ hx.out Tryz.underlying191 rfl (Hi.out _) ?_)
     |(go_at_call 192;refine (free_any (cnt xs s n) s k (k/s) (s+k%s) _ hs2 hs4 Hr Hc hr8 hc8 (by omega) HC.out).mono ?_;rintro e w4 ⟨rfl,hb4⟩;rw [Hg.out];have ho4:=ho.below hb4;obtain ⟨hold4,hfr4⟩:=ho4.cell hlt;have hx4:=Lib.hid (CBox.below hx.out hx.out.lt hb4);have hb4':=step hb hb4;have hst:=(World.ownsRow.stored ho4 k (.int .i64 (nth (mapTo (candG xs s) n) k))).1;rw [part_set,mapTo_nth hlt] at hst;have Hst:=Lib.hid hst;clear hst;have hx5:∀ v:Value,Hid (CBox (w4.setCell ⟨M,k,none⟩ v) G (cnt xs s n) s):=fun v=>Lib.hid (hx4.out.other hne);clear hb4))
    go_roundw
    case rel=>exact ⟨k+1,by omega,by go_num,Hst.out,hx5 _,hb4'.setCell (p:=(⟨M,k,none⟩:Addr)) hlo _⟩
    case measure=>simp [intOf];omega
   ·have Hg:=Lib.hid (show ((2^v:Nat):Int)=candG xs s k by
     simp only [candG,candN,hv,Int.toNat_natCast]
     rw [if_pos (by omega)])
    have hz1:((v:Int)==0)=false:=(by simp;omega);have hpw:=two_pow_nat v (by omega);have Hpw:=Lib.hid hpw;have Hfill:=Lib.hid hfill;obtain ⟨hold,hfr⟩:=ho.cell hlt;clear hpw hst hfill hz
    go_wp2
    go_roundw
    case rel=>exact ⟨k+1,by omega,by go_num,by rw [show (wrap64 (2^v))=candG xs s k from Hpw.out.trans Hg.out];exact Hfill.out,hx6 _,hb.setCell (p:=(⟨M,k,none⟩:Addr)) hlo _⟩
    case measure=>simp [intOf];omega
  ·obtain rfl:k=n:=by omega
   have hp:part (mapTo (candG xs s) k) k k=mapTo (candG xs s) k:=part_all' (mapTo_length _ _);rw [hp] at ho
   go_wp2
   go_ret
   have:=retSl_mk ho hb;exact this
theorem implCandidatesOf:ICandidatesOf:=by
 intro A c n B xs size w h hB hm;have hlen:=Lib.hid h.1;cases hg:gv xs size
 ·have HL:=Lib.hid (show candL xs size=[] by simp [candL,hg]);have h1:=h.alloc hB (.cells #[.slice A n c,.int .i64 size] 75)
  have hB1:B<=(w.alloc (.cells #[.slice A n c,.int .i64 size] 75)).heap.size:=by simp;omega
  have hB0:Below w.heap.size w (w.alloc (.cells #[.slice A n c,.int .i64 size] 75)):=(Below.refl _ _).alloc (Nat.le_refl _) _
  go_enter Tryz.func162,Tryz.ntmps162
  go_wp2_with (go_at_call 117;refine (implValid _ _ _ _ _ _ _ h1 hB1 hm).mono ?_;rintro e w1 ⟨rfl,hb1⟩;rw [hg])
  go_ret
  rw [HL.out];exact ⟨_,_,rfl,Ow.nil_ _ _,step hB0 hb1⟩
 ·obtain ⟨s,rfl,hs,hls⟩:=size_nat hg
  have hn:n=s*s:=by have:=hlen.out;omega
  have hok:=Lib.hid (gv_okAll hg hlen.out);have HL:=Lib.hid (show candL xs s=mapTo (candG xs s) n by simp [candL,hg,hlen.out]);have Hn:=Lib.hid hn;clear hn hls;have h1:=h.alloc hB (.cells #[.slice A n c,.int .i64 s] 75)
  have hB1:B<=(w.alloc (.cells #[.slice A n c,.int .i64 s] 75)).heap.size:=by simp;omega
  have hB0:Below w.heap.size w (w.alloc (.cells #[.slice A n c,.int .i64 s] 75)):=(Below.refl _ _).alloc (Nat.le_refl _) _
  go_enter Tryz.func162,Tryz.ntmps162
  go_wp2_with (first|(go_at_call 117;refine (implValid _ _ _ _ _ _ _ h1 hB1 hm).mono ?_;rintro e w1 ⟨rfl,hb1⟩;rw [hg];have hr1:=h1.below (hb1.mono hB1);have c0:=box_cell hb1 0;have c1:=box_cell hb1 1;have hB2:=step hB0 hb1;have hBw:B<=w1.heap.size:=Nat.le_trans hB hB2.size;clear hb1;simp only [List.getElem?_toArray,List.getElem?_cons_zero,List.getElem?_cons_succ] at c0 c1)|(go_at_call 182;refine (candidates_any _ _ _ _ _ _ _ hr1 hBw hs Hn.out hok).mono ?_;rintro e w2 ⟨A2,c2,rfl,ho2,hb2⟩;have hB3:=step hB2 hb2))
  go_ret
  rw [HL.out];exact ⟨_,_,rfl,ho2.mono hB2.size,hB3⟩
set_option maxRecDepth 8000
theorem opts_info:(Tryz.prog.info? 167).map (fun i=>(i.zero,i.size,i.bytes))=some (some (.slice none 0 0),1,24):=by kernel_rfl
theorem rulsl_info:(Tryz.prog.info? 24).map (fun i=>(i.zero,i.size,i.bytes))=some (some (.slice none 0 0),1,24):=by kernel_rfl
theorem make_opts {n:Nat} (hn:n<=1099511627776) (w:World):(Instr.makeSlice 130 (.int .i64 (n:Int)) (.int .i64 (n:Int))).run Tryz.prog w=.ok (.slice (some ⟨w.heap.size,0,none⟩) n n) (w.alloc (.cells (rowsArr (fun _=>.slice none 0 0) n) 167)):=by
 obtain ⟨i0,hi,hz0,hz1,hz2⟩:=info_parts opts_info;have hr:=run_make (P:=Tryz.prog) w 130 167 i0 (.slice none 0 0) Tryz.underlying130 hi hz0 .i64 .i64 (n:Int) (n:Int) (by omega) (Int.le_refl _) (by rw [hz2];omega) (by omega);rw [hz1,Int.toNat_natCast,Nat.mul_one] at hr;rw [<- nils_arr];exact hr
theorem make_ruls {n:Nat} (hn:n<=1099511627776) (w:World):(Instr.makeSlice 131 (.int .i64 (n:Int)) (.int .i64 (n:Int))).run Tryz.prog w=.ok (.slice (some ⟨w.heap.size,0,none⟩) n n) (w.alloc (.cells (rowsArr (fun _=>.slice none 0 0) n) 24)):=by
 obtain ⟨i0,hi,hz0,hz1,hz2⟩:=info_parts rulsl_info;have hr:=run_make (P:=Tryz.prog) w 131 24 i0 (.slice none 0 0) Tryz.underlying131 hi hz0 .i64 .i64 (n:Int) (n:Int) (by omega) (Int.le_refl _) (by rw [hz2];omega) (by omega);rw [hz1,Int.toNat_natCast,Nat.mul_one] at hr;rw [<- nils_arr];exact hr
theorem opt_info:(Tryz.prog.info? 166).map (fun i=>(i.zero,i.size,i.bytes))=some (some (.agg #[.int .i64 0,.int .u64 0]),2,16):=by kernel_rfl
theorem updR_at (R:Nat->Value) (c:Nat) (v:Value):updR R c v c=v:=by simp [updR]
theorem updR_ne (R:Nat->Value) {c j:Nat} (v:Value) (h:j≠c):updR R c v j=R j:=by simp [updR,h]
theorem updR_upd (R:Nat->Value) (c:Nat) (v v':Value):updR (updR R c v) c v'=updR R c v':=by
 funext j
 simp only [updR]
 split<;>rfl
theorem updR_self {R:Nat->Value} {c:Nat} {v:Value} (h:R c=v):updR R c v=R:=by
 funext j
 simp only [updR]
 split
 ·rename_i e;subst e;exact h.symm
 ·rfl
theorem grown_ownS {w w1 w2:World} {OB:Nat} {r:Option Nat} (h:w.grownBy w1 (some OB)) (h2:w1.grownBy w2 r) (hr:∀ g,r=some g->w.heap.size<=g):w.grownBy w2 (some OB):=
 ⟨h2.os.trans h.os,h2.tape.trans h.tape,h2.output.trans h.output,Nat.le_trans h.size h2.size,fun k hk hne=>(h2.block k (Nat.lt_of_lt_of_le hk h.size) (fun e=>by have:=hr k e.symm;omega)).trans (h.block k hk hne)⟩
theorem grown_cell {w w':World} {OB b i:Nat} {v:Value} (h:w.grownBy w' (some OB)) (hc:w.cell? ⟨b,i,none⟩=some v) (hb:b≠OB):w'.cell? ⟨b,i,none⟩=some v:=
 (h.cell_far ⟨b,i,none⟩ (cell_lt hc) (fun e=>hb (Option.some.inj e))).trans hc
theorem grown_blk {w w':World} {OB b:Nat} {o:Obj} (h:w.grownBy w' (some OB)) (hc:w.heap[b]? =some o) (hb:b≠OB):w'.heap[b]? =some o:=
 (h.block b (Array.getElem?_eq_some_iff.1 hc).1 (fun e=>hb (Option.some.inj e))).trans hc
theorem take_push {xs:List Int} {t:Nat} (h:t<xs.length):xs.take (t+1)=xs.take t++[nth xs t]:=by
 rw [List.take_add_one,List.getElem?_eq_getElem h]
 simp [nth,List.getD_eq_getElem?_getD,h]
theorem grown_sr {w:World} {g:Nat} {cs:Array Value}:w.grownBy (w.setRow g cs) (some g):=
 ⟨rfl,rfl,rfl,by simp,fun k hk hne=>by unfold World.setRow;simp only [Array.getElem?_modify];rw [if_neg (fun e=>hne (by rw [e]))]⟩
def nilR:Nat->Value:=fun _=>.slice none 0 0
def SgG (B n:Nat):Nat->Value->World->Prop
 |1,v,w=>∃ g,v=.slice (some ⟨g,0,none⟩) n n/\B<=g/\w.heap[g]? =some (.cells (zeroArr n) 3)
 |3,v,w=>∃ g,v=.slice (some ⟨g,0,none⟩) n n/\B<=g/\Arr w g 167 nilR n
 |5,v,w=>∃ g,v=.slice (some ⟨g,0,none⟩) n n/\B<=g/\Arr w g 24 nilR n
 |6,v,w=>∃ g1 g2 g3,v=.agg #[.slice (some ⟨g1,0,none⟩) n n,.slice (some ⟨g2,0,none⟩) n n,.slice (some ⟨g3,0,none⟩) n n]/\(B<=g1/\w.heap[g1]? =some (.cells (zeroArr n) 3))/\(B<=g2/\Arr w g2 167 nilR n)/\(B<=g3/\Arr w g3 24 nilR n)
 |7,v,w=>∃ g,v=.pointer (some ⟨g,0,none⟩)/\B<=g/\w.heap[g]? =some (.cells #[.slice none 0 0,.slice none 0 0,.slice none 0 0] 133)
 |_,v,_=>v=.int .i64 (n:Int)
theorem blk_below {w w':World} {g:Nat} {o:Obj} (h:w.heap[g]? =some o) (hb:Below w.heap.size w w'):w'.heap[g]? =some o:=(hb.block g (Array.getElem?_eq_some_iff.1 h).1).trans h
theorem sgG_below (B n:Nat):∀ j v w w',Below w.heap.size w w'->SgG B n j v w->SgG B n j v w':=by
 intro j v w w' hb h;unfold SgG at h ⊢
 split at h
 ·obtain ⟨g,e,h1,h2⟩:=h;exact ⟨g,e,h1,blk_below h2 hb⟩
 ·obtain ⟨g,e,h1,h2⟩:=h;exact ⟨g,e,h1,blk_below h2 hb⟩
 ·obtain ⟨g,e,h1,h2⟩:=h;exact ⟨g,e,h1,blk_below h2 hb⟩
 ·obtain ⟨g1,g2,g3,e,⟨h1,k1⟩,⟨h2,k2⟩,h3,k3⟩:=h;exact ⟨g1,g2,g3,e,⟨h1,blk_below k1 hb⟩,⟨h2,blk_below k2 hb⟩,h3,blk_below k3 hb⟩
 ·obtain ⟨g,e,h1,h2⟩:=h;exact ⟨g,e,h1,blk_below h2 hb⟩
 ·exact h
theorem srch_info (v0 v1 v2:Value):(Tryz.prog.info? 133).map (·.size)=some (#[v0,v1,v2]:Array Value).size:=by
 show _=some 3
 kernel_rfl
set_option maxHeartbeats 4000000 in
theorem search_any (W0:World) (B0 s n:Nat) (Ag:Option Addr) (cg:Nat) (gi:List Int) (Ar:Option Addr) (nr cr:Nat) (rs:List RuleM) (w:World) (hb:Below B0 W0 w) (hB0:B0<=W0.heap.size) (hs:s∈[2,3,4]) (hn:n=s*s) (hg:Rd W0 B0 Ag n gi) (hr:RdRc W0 B0 Ar nr rs) (hmr:nr<=20) (hv:pvB s gi rs=true):
 Calls Tryz.prog 124 #[.agg #[.int .i64 s,.slice Ag n cg,.slice Ar nr cr]] w fun e w'=>∃ G OB RB L,e=.returned (sVal G OB RB n)/\(w.heap.size<=G/\w.heap.size<=OB/\w.heap.size<=RB/\w.heap.size<=L/\G<L/\OB≠G/\RB≠G/\OB<L/\RB<L)/\L<=w'.heap.size/\SR W0 B0 s gi rs OB RB L w'/\Ow w' w.heap.size (some ⟨G,0,none⟩) n n (zeros n)/\Below w.heap.size w w':=by
 have hn16:n<=16:=by simp at hs;rcases hs with rfl|rfl|rfl<;>omega
 have hn4:4<=n:=by simp at hs;rcases hs with rfl|rfl|rfl<;>omega
 have hx0:=pbox_new w s Ag n cg Ar nr cr 26;obtain ⟨Wa,hWa⟩:∃ Wa,w.alloc (.cells #[.int .i64 s,.slice Ag n cg,.slice Ar nr cr] 26)=Wa:=⟨_,rfl⟩;rw [hWa] at hx0
 have hba:Below w.heap.size w Wa:=by rw [<- hWa];exact (Below.refl _ _).alloc (Nat.le_refl _) _
 have hsa:Wa.heap.size=w.heap.size+1:=by rw [<- hWa];simp
 obtain ⟨Wb,hWb⟩:∃ Wb,Wa.alloc (.cells #[.slice none 0 0,.slice none 0 0,.slice none 0 0] 133)=Wb:=⟨_,rfl⟩
 have hbb:Below Wa.heap.size Wa Wb:=by rw [<- hWb];exact (Below.refl _ _).alloc (Nat.le_refl _) _
 have hsb:Wb.heap.size=w.heap.size+1+1:=by rw [<- hWb];simp [hsa]
 have hrc:Wb.heap[w.heap.size+1]? =some (.cells #[.slice none 0 0,.slice none 0 0,.slice none 0 0] 133):=by rw [<- hWb,<-hsa];exact heap_alloc_new Wa _
 have hx1:=hx0.below (by omega) hbb;obtain ⟨a0,a1,a2⟩:=id hx1;have HX:=Lib.hid (fun w' (hb:Below Wb.heap.size Wb w')=>hx1.below (show w.heap.size<Wb.heap.size by omega) hb);have HRC:=Lib.hid hrc;have HMI:=Lib.hid (fun w'=>make_ints (n:=n) (by omega) w');have HMO:=Lib.hid (fun w'=>make_opts (n:=n) (by omega) w');have HMR:=Lib.hid (fun w'=>make_ruls (n:=n) (by omega) w');have Hi:=Lib.hid srch_info;have HN:=Lib.hid hn;have Hba:=Lib.hid (hba.trans (hbb.mono (by omega)));clear hx0 hx1 hrc hba hbb hn
 go_enter Tryz.func124,Tryz.ntmps124
 go_wp2
 refine wp_region_ds [16,17,18,19,20,21,22,4] (SgG Wb.heap.size n) (by kernel_rfl) (by kernel_rfl) (by simp) (sgG_below _ _) ?step ?last
 case step=>
  intro i o a w' hi hoo hb hfr hpre;have e3:a.eval (.tmp 3)=.int .i64 (n:Int):=hfr 3 (by simp);have hi8:i<8:=hi
  have:i=0\/i=1\/i=2\/i=3\/i=4\/i=5\/i=6\/i=7:=by omega
  rcases this with rfl|rfl|rfl|rfl|rfl|rfl|rfl|rfl
  all_goals
   simp only [List.getElem?_toArray,List.getElem?_cons_zero,List.getElem?_cons_succ,Option.some.injEq] at hoo;subst hoo
  ·refine ⟨_,w',?_,Below.refl _ _,rfl⟩;unfold execOp;simp only [e3]
   go_simp
  ·have p0:a.eval (.tmp 16)=.int .i64 (n:Int):=hpre ⟨0,.data⟩ (by simp) rfl;refine ⟨_,_,?_,(Below.refl _ _).alloc (Nat.le_refl _) (.cells (zeroArr n) 3),⟨w'.heap.size,rfl,hb.size,heap_alloc_new _ _⟩⟩;unfold execOp;simp only [p0,Sem.run_bind,Sem.run_pure,Result.andThen_ok,HMI.out]
  ·refine ⟨_,w',?_,Below.refl _ _,rfl⟩;unfold execOp;simp only [e3]
   go_simp
  ·have p0:a.eval (.tmp 18)=.int .i64 (n:Int):=hpre ⟨2,.data⟩ (by simp) rfl;refine ⟨_,_,?_,(Below.refl _ _).alloc (Nat.le_refl _) (.cells (rowsArr (fun _=>.slice none 0 0) n) 167),⟨w'.heap.size,rfl,hb.size,heap_alloc_new _ _⟩⟩;unfold execOp;simp only [p0,Sem.run_bind,Sem.run_pure,Result.andThen_ok,HMO.out]
  ·refine ⟨_,w',?_,Below.refl _ _,rfl⟩;unfold execOp;simp only [e3]
   go_simp
  ·have p0:a.eval (.tmp 20)=.int .i64 (n:Int):=hpre ⟨4,.data⟩ (by simp) rfl;refine ⟨_,_,?_,(Below.refl _ _).alloc (Nat.le_refl _) (.cells (rowsArr (fun _=>.slice none 0 0) n) 24),⟨w'.heap.size,rfl,hb.size,heap_alloc_new _ _⟩⟩;unfold execOp;simp only [p0,Sem.run_bind,Sem.run_pure,Result.andThen_ok,HMR.out]
  ·obtain ⟨g1,p17,q1,q2⟩:∃ g,a.eval (.tmp 17)=.slice (some ⟨g,0,none⟩) n n/\Wb.heap.size<=g/\w'.heap[g]? =some (.cells (zeroArr n) 3):=hpre ⟨1,.data⟩ (by simp) rfl;obtain ⟨g2,p19,q3,q4⟩:∃ g,a.eval (.tmp 19)=.slice (some ⟨g,0,none⟩) n n/\Wb.heap.size<=g/\Arr w' g 167 nilR n:=hpre ⟨3,.data⟩ (by simp) rfl;obtain ⟨g3,p21,q5,q6⟩:∃ g,a.eval (.tmp 21)=.slice (some ⟨g,0,none⟩) n n/\Wb.heap.size<=g/\Arr w' g 24 nilR n:=hpre ⟨5,.data⟩ (by simp) rfl;refine ⟨.agg #[.slice (some ⟨g1,0,none⟩) n n,.slice (some ⟨g2,0,none⟩) n n,.slice (some ⟨g3,0,none⟩) n n],w',?_,Below.refl _ _,g1,g2,g3,rfl,⟨q1,q2⟩,⟨q3,q4⟩,q5,q6⟩
   unfold execOp;simp only [List.map_toArray,List.map_cons,List.map_nil,p17,p19,p21]
   go_simp
  ·refine ⟨_,_,?_,(Below.refl _ _).alloc (Nat.le_refl _) (.cells #[.slice none 0 0,.slice none 0 0,.slice none 0 0] 133),⟨w'.heap.size,rfl,hb.size,heap_alloc_new _ _⟩⟩;unfold execOp
   go_simp
 case last=>
  intro o a w5 hoo hb5 hdef htm hfr hpre;simp only [List.length_cons,List.length_nil,Nat.reduceAdd,List.getElem?_toArray,List.getElem?_cons_zero,List.getElem?_cons_succ,Option.some.injEq] at hoo;subst hoo;have g16:a.tmps.getD 16 undef=.int .i64 (n:Int):=hpre 0 (by simp);obtain ⟨b17,g17,_⟩:∃ g,a.tmps.getD 17 undef=.slice (some ⟨g,0,none⟩) n n/\_:=hpre 1 (by simp);have g18:a.tmps.getD 18 undef=.int .i64 (n:Int):=hpre 2 (by simp);obtain ⟨b19,g19,_⟩:∃ g,a.tmps.getD 19 undef=.slice (some ⟨g,0,none⟩) n n/\_:=hpre 3 (by simp);have g20:a.tmps.getD 20 undef=.int .i64 (n:Int):=hpre 4 (by simp);obtain ⟨b21,g21,_⟩:∃ g,a.tmps.getD 21 undef=.slice (some ⟨g,0,none⟩) n n/\_:=hpre 5 (by simp);obtain ⟨G,OB,RB,g22,⟨hG,hGr⟩,⟨hO,hOr⟩,hR,hRr⟩:∃ g1 g2 g3,a.tmps.getD 22 undef=.agg #[.slice (some ⟨g1,0,none⟩) n n,.slice (some ⟨g2,0,none⟩) n n,.slice (some ⟨g3,0,none⟩) n n]/\(Wb.heap.size<=g1/\w5.heap[g1]? =some (.cells (zeroArr n) 3))/\(Wb.heap.size<=g2/\Arr w5 g2 167 nilR n)/\(Wb.heap.size<=g3/\Arr w5 g3 24 nilR n):=hpre 6 (by simp);obtain ⟨SB,g4,hS,hSr⟩:∃ g,a.tmps.getD 4 undef=.pointer (some ⟨g,0,none⟩)/\Wb.heap.size<=g/\w5.heap[g]? =some (.cells #[.slice none 0 0,.slice none 0 0,.slice none 0 0] 133):=hpre 7 (by simp)
  have h4:a.eval (.tmp 4)=.pointer (some ⟨SB,0,none⟩):=g4;have h22:a.eval (.tmp 22)=.agg #[.slice (some ⟨G,0,none⟩) n n,.slice (some ⟨OB,0,none⟩) n n,.slice (some ⟨RB,0,none⟩) n n]:=g22;refine ⟨w5.setRow SB #[.slice (some ⟨G,0,none⟩) n n,.slice (some ⟨OB,0,none⟩) n n,.slice (some ⟨RB,0,none⟩) n n],?_,?_⟩
  ·have hst:=run_storeVar_row (P:=Tryz.prog) w5 SB 133 133 _ #[.slice (some ⟨G,0,none⟩) n n,.slice (some ⟨OB,0,none⟩) n n,.slice (some ⟨RB,0,none⟩) n n] hSr (Hi.out _ _ _) rfl (by simp [Value.oneCell']);unfold execOp;simp only [h4,h22,Instr.storeAt,Instr.sureAddr,Sem.run_bind,Sem.run_pure,Result.andThen_ok,hst]
  ·have key:=htm;simp only [List.foldl_cons,List.foldl_nil,g16,g17,g18,g19,g20,g21,g22,g4,List.setIfInBounds_toArray,List.set_cons_succ,List.set_cons_zero] at key;clear htm hfr hpre g16 g17 g18 g19 g20 g21 g22 g4 h4 h22;obtain ⟨tm,df⟩:=a
   dsimp only at key hdef
   subst key hdef
   have hne:=fun (g g':Nat) (cs cs':Array Value) (t t':TypeId) (h:w5.heap[g]? =some (.cells cs t)) (h':w5.heap[g']? =some (.cells cs' t')) (ht:t≠t')=>(fun e=>by
    subst e;rw [h] at h'
    injection h' with h'
    injection h' with _ h'
    exact ht h':g≠g')
   have n1:=hne _ _ _ _ _ _ hGr hSr (by decide);have n2:=hne _ _ _ _ _ _ hOr hSr (by decide);have n3:=hne _ _ _ _ _ _ hRr hSr (by decide);have n4:=hne _ _ _ _ _ _ hOr hGr (by decide);have n5:=hne _ _ _ _ _ _ hRr hGr (by decide);have n6:=hne _ _ _ _ _ _ hRr hOr (by decide);clear hne;have hr6:=setRow_heap (w:=w5) SB _ #[.slice (some ⟨G,0,none⟩) n n,.slice (some ⟨OB,0,none⟩) n n,.slice (some ⟨RB,0,none⟩) n n] 133 _ hSr
   have hoth:∀ g,g≠SB->(w5.setRow SB #[.slice (some ⟨G,0,none⟩) n n,.slice (some ⟨OB,0,none⟩) n n,.slice (some ⟨RB,0,none⟩) n n]).heap[g]? =w5.heap[g]? :=fun g hg=>by
    unfold World.setRow;simp only [Array.getElem?_modify];rw [if_neg (fun e=>hg e.symm)]
   have hB6:Below Wb.heap.size Wb (w5.setRow SB #[.slice (some ⟨G,0,none⟩) n n,.slice (some ⟨OB,0,none⟩) n n,.slice (some ⟨RB,0,none⟩) n n]):=setRow_below hb5 hS;have hG6:=(hoth G n1).trans hGr;have hO6:=(hoth OB n2).trans hOr;have hR6:=(hoth RB n3).trans hRr;obtain ⟨w6,hw6⟩:∃ w6,w5.setRow SB #[.slice (some ⟨G,0,none⟩) n n,.slice (some ⟨OB,0,none⟩) n n,.slice (some ⟨RB,0,none⟩) n n]=w6:=⟨_,rfl⟩;rw [hw6] at hr6 hB6 hG6 hO6 hR6 ⊢;clear hw6 hoth hb5 hGr hOr hRr hSr;obtain ⟨x0,x1,x2⟩:=HX.out w6 hB6;have hb06:Below w.heap.size w w6:=Hba.out.trans (hB6.mono (by omega));have hBs:B0<=w.heap.size:=Nat.le_trans hB0 hb.size;have HC:=Lib.hid (implCandidatesOf Ag cg n B0 gi s w6 (hg.below (hb.trans (hb06.mono hBs))) (Nat.le_trans hBs hb06.size) (by omega))
   have Hcl:=Lib.hid (show (candL gi s).length=n by
    have hgv:=(pv_gv hv).1
    unfold candL;rw [if_pos hgv,mapTo_length];exact hg.1)
   have Hcn:=Lib.hid (show ∀ c,c<n->nth (candL gi s) c=((candN gi s c:Nat):Int) from fun c hc=>by
    have hgv:=(pv_gv hv).1;have hl:gi.length=n:=hg.1
    unfold candL;rw [if_pos hgv,hl,mapTo_nth hc];rfl)
   go_wp2_with (go_at_call 162;refine HC.out.mono ?_;rintro e w7 ⟨A7,c7,rfl,ho7,hb7⟩;rw [Hcl.out] at ho7 ⊢)
   have hs7:=hb7.size;have hs6:=hb06.size;have hrc7:=(hb7.block (w.heap.size+1) (by have:=hB6.size;omega)).trans ((hB6.block (w.heap.size+1) (by omega)).trans HRC.out);have hS7:=blk_below hr6 hb7;have hG7:=blk_below hG6 hb7;have hO7:Arr w7 OB 167 nilR n:=blk_below hO6 hb7;have hR7:Arr w7 RB 24 nilR n:=blk_below hR6 hb7;have hP7:=HX.out w7 (hB6.trans (hb7.mono hB6.size));have hb07:=step hb06 hb7
   have hne7:∀ b off,A7=some ⟨b,off,none⟩->w6.heap.size<=b:=fun b off e=>by
    obtain ⟨g,e2,h1,_⟩:=ho7.form (by omega);rw [e] at e2
    injection e2 with e2
    injection e2 with e2 _ _
    omega
   have hSO:SB<w6.heap.size:=(Array.getElem?_eq_some_iff.1 hr6).1;have hOO:OB<w6.heap.size:=(Array.getElem?_eq_some_iff.1 hO6).1;have hRO:RB<w6.heap.size:=(Array.getElem?_eq_some_iff.1 hR6).1;have hGO:G<w6.heap.size:=(Array.getElem?_eq_some_iff.1 hG6).1;have hSc:w7.cell? ⟨SB,0,none⟩=some (.slice (some ⟨G,0,none⟩) n n)/\w7.cell? ⟨SB,1,none⟩=some (.slice (some ⟨OB,0,none⟩) n n)/\w7.cell? ⟨SB,2,none⟩=some (.slice (some ⟨RB,0,none⟩) n n):=⟨cell_of_row _ _ 0 _ _ (0,0) hS7,cell_of_row _ _ 1 _ _ (0,0) hS7,cell_of_row _ _ 2 _ _ (0,0) hS7⟩;have HS:=Lib.hid (And.intro hSc (And.intro hP7 (And.intro hS7 (And.intro hG7 (And.intro hrc7 hR7)))))
   have HN4:=Lib.hid hn4;obtain ⟨p0,p1,p2⟩:=id hP7;have hAr0:=Lib.hid hO7;clear hr6 hG6 hO6 hR6 hS7 hG7 hrc7 hSc hP7 hO7 hR7 x0 x1 x2 hn4
   go_loopw [29] (fun i wr=>∃ (u:Nat) (R:Nat->Value),u<=n/\i=.int .i64 u/\Hid (Arr wr OB 167 R n/\(∀ j,j<u->∃ A cap,R j=.slice A (optL s gi j).length cap/\RdO wr w7.heap.size A s j (optL s gi j))/\∀ j,u<=j->R j=.slice none 0 0)/\w7.grownBy wr (some OB)) (fun i _=>n-(intOf i).toNat)
   case atStart=>exact ⟨0,nilR,Nat.zero_le _,rfl,Lib.hid ⟨hAr0.out,fun j hj=>absurd hj (by omega),fun _ _=>rfl⟩,World.grownBy.refl _ _⟩
   case round=>
    obtain ⟨u,R,hu,rfl,hA,hg7⟩:=hrel
    by_cases hlt:u<n
    ·have hltI:(u:Int)<(n:Int):=(by omega);obtain ⟨b7,off7,e7,hb7l,hck⟩:=ho7.rd.at_ hlt;have hb7O:b7≠OB:=(by have:=hne7 _ _ e7;omega);have hck:=grown_cell hg7 hck hb7O;rw [Hcn.out u hlt] at hck;subst e7;have hM32:candN gi s u<32:=candN_lt (by simp at hs;omega) (gv_okAll (pv_gv hv).1 hg.1) hlt;have HV:=Lib.hid (fun w'=>valuesIn_any (candN gi s u) hM32 w');have hopt:optL s gi u=bitsTo (candN gi s u) 4:=rfl;have hOl:=bitsTo_length (candN gi s u) 4;rw [<- hopt] at HV hOl;obtain ⟨O,hO⟩:∃ O,O=optL s gi u:=⟨_,rfl⟩;have Hin:=Lib.hid (fun v (h:v∈O)=>opt_in (gv_nth (pv_gv hv).1 (show u<gi.length by rw [hg.1];exact hlt)) (by rw [<- hO];exact h))
     rw [<- hO] at HV hOl;have HO:=Lib.hid hO;have Hlt:=Lib.hid hlt;clear hopt hO
     go_wp2_with (go_at_call 163;refine (HV.out _).mono ?_;rintro e w8 ⟨A8,c8,rfl,ho8,hb8⟩)
     have hg78:w7.grownBy w8 (some OB):=grown_tr2 hg7 (grown_of_below hb8);have h78:=hg78.size;have hOBl:OB<w8.heap.size:=(by omega);have hSBl:SB<w8.heap.size:=(by omega);have hR0:=hA.out.2.2 u (Nat.le_refl _)
     have hAr8:=Lib.hid (show Arr w8 OB 167 (updR R u (.slice none 0 0)) n from by
      rw [updR_self hR0];exact Arr.kept hA.out.1 (hb8.block OB (by have:=hg7.size;omega)))
     have Hol8:=Lib.hid ho8.len;obtain ⟨l,hl⟩:∃ l,l=O.length:=⟨_,rfl⟩;have Hl:=Lib.hid hl;rw [<- hl] at hOl;have Ho8:=Lib.hid ho8.rd
     have Hb8:=Lib.hid (fun b off (e:A8=some ⟨b,off,none⟩) (h0:0<l)=>show b≠OB from by
      obtain ⟨g,e2,h1,_⟩:=ho8.form (by omega);rw [e] at e2
      injection e2 with e2
      injection e2 with e2 _ _
      have:=hg7.size
      omega)
     have Hg78:=Lib.hid hg78
     have HA8:=Lib.hid (show (∀ j,j<u->∃ A cap,R j=.slice A (optL s gi j).length cap/\RdO w8 w7.heap.size A s j (optL s gi j))/\∀ j,u<=j->R j=.slice none 0 0 from ⟨fun j hj=>by
      obtain ⟨A,cap,e,h⟩:=hA.out.2.1 j hj
      exact ⟨A,cap,e,h.midx (midx_below (lo:=w7.heap.size) (G:=OB) hb8) (Nat.le_refl _) (by omega)⟩,hA.out.2.2⟩)
     rw [<- hl];clear hl hck hb8 ho8 hg78 hR0
     go_loopw [37] (fun i wr=>∃ (t:Nat) (A:Option Addr) (cap:Nat),t<=l/\i=.int .i64 t/\Hid (Arr wr OB 167 (updR R u (.slice A t cap)) n)/\wr.ownsRow w8.heap.size 166 2 (.slice A t cap) t (optV s u (O.take t))/\w8.grownBy wr (some OB)) (fun i _=>l-(intOf i).toNat)
     case atStart=>exact ⟨0,none,0,Nat.zero_le _,rfl,hAr8,World.ownsRow_nil _ _ _ _,World.grownBy.refl _ _⟩
     case round=>
      obtain ⟨t,A,cap,ht,rfl,hAr,hown,hg8⟩:=hrel
      by_cases hlt2:t<l
      ·have hlt2I:(t:Int)<(l:Int):=(by omega);have htO:t<O.length:=(by rw [<- Hl.out];exact hlt2);obtain ⟨b8,off8,e8,hb8l,hck⟩:=Ho8.out.at_ htO;have hck:=grown_cell hg8 hck (Hb8.out _ _ e8 (by omega));subst e8;obtain ⟨x,hx,x1,x2⟩:=Hin.out _ (nth_mem htO)
       have Hpush:=Lib.hid (show optV s u (O.take (t+1))=optV s u (O.take t)++[.int .i64 x,.int .u64 ((itN s u x:Nat):Int)] from by
        rw [take_push htO,hx,optV_push,Int.toNat_natCast])
       rw [hx] at hck;have hs4:s<=4:=(by simp at hs;omega);have hgx:w7.grownBy wr (some OB):=grown_tr2 Hg78.out hg8;have hsx:=hgx.size;have s1:=grown_cell hgx HS.out.1.2.1 (show SB≠OB from fun e=>n2 e.symm);have q0:=grown_cell hgx HS.out.2.1.1 (show w.heap.size≠OB by omega);have HI:=Lib.hid (itemsOf_any s u x wr hs (by rw [<- HN.out];exact Hlt.out) x1 x2);obtain ⟨it,hit⟩:∃ it,it=itN s u x:=⟨_,rfl⟩;rw [<- hit] at HI Hpush;have Hlt2:=Lib.hid hlt2;have hAl:=hAr.out.lt;clear hx hit htO
       go_wp2_with (go_at_call 164;refine HI.out.mono ?_;rintro e w9 ⟨rfl,hb9⟩)
       obtain ⟨w10,hw10⟩:∃ w10,w9.alloc (.cells #[.int .i64 x,.int .u64 it] 166)=w10:=⟨_,rfl⟩;rw [hw10];have h9:Below w9.heap.size w9 w10:=(by rw [<- hw10];exact (Below.refl _ _).alloc (Nat.le_refl _) _);have y0:w10.cell? ⟨w9.heap.size,0,none⟩=some (.int .i64 x):=(by rw [<- hw10];exact cell_of_row _ _ 0 _ _ (0,0) (heap_alloc_new _ _));have y1:w10.cell? ⟨w9.heap.size,1,none⟩=some (.int .u64 it):=(by rw [<- hw10];exact cell_of_row _ _ 1 _ _ (0,0) (heap_alloc_new _ _));have hb10:Below wr.heap.size wr w10:=step hb9 h9;have hs10:=hb10.size;have hAr10:=hAr.out.kept (hb10.block OB hAl);have s1':=(hb10.cell (p:=⟨SB,1,none⟩) (cell_lt s1)).trans s1;have c10:=hAr10.cell Hlt.out;rw [updR_at] at c10;have HOW:=Lib.hid (fun w' (hb:Below w10.heap.size w10 w')=>own_below (own_below hown hb10) hb);have Hown:=Lib.hid (fun (g:Nat) (e:(Value.slice A t cap).ownBlock=some g)=>(⟨(World.ownsRow.lt hown g e).1,(World.ownsRow.lt hown g e).2⟩:w8.heap.size<=g/\g<wr.heap.size));have HNE:=Lib.hid (fun (g:Nat) (e:(Value.slice A t cap).ownBlock=some g)=>show g<w10.heap.size from by have:=Hown.out g e;omega);have HNA:=Lib.hid (show (Value.slice A t cap).ownBlock≠some OB from fun e=>by have:=Hown.out OB e;omega)
       have hw8:=hg8.size;have HLO:=Lib.hid (Nat.le_trans hw8 hs10);have HAR:=Lib.hid hAr10;have HLT:=Hlt;have h9s:=hb9.size;have HF:=Lib.hid (fun (w':World) (hg:w10.grownBy w' (Value.slice A t cap).ownBlock)=>(⟨(hg.cell_far ⟨SB,1,none⟩ (cell_lt s1') (fun e=>by have:=Hown.out SB e.symm;omega)).trans s1',(hg.cell_far ⟨OB,u,none⟩ (cell_lt c10) (fun e=>by have:=Hown.out OB e.symm;omega)).trans c10,(hg.cell_far ⟨w9.heap.size,0,none⟩ (cell_lt y0) (fun e=>by have:=Hown.out w9.heap.size e.symm;omega)).trans y0,(hg.cell_far ⟨w9.heap.size,1,none⟩ (cell_lt y1) (fun e=>by have:=Hown.out w9.heap.size e.symm;omega)).trans y1⟩:w'.cell? ⟨SB,1,none⟩=some (.slice (some ⟨OB,0,none⟩) n n)/\w'.cell? ⟨OB,u,none⟩=some (.slice A t cap)/\w'.cell? ⟨w9.heap.size,0,none⟩=some (.int .i64 x)/\w'.cell? ⟨w9.heap.size,1,none⟩=some (.int .u64 it)))
       obtain ⟨i0,hi0,hz0,hz1,hz2⟩:=info_parts opt_info;have ht16:t<=16:=(by omega);clear hAr10 s1 hw10 h9 hck hown c10 s1' y0 y1;refine wp_region_dsS [48,49,50,51,52,53,54,55,56,57,58,59] (PsG SB 1 OB u n A t cap #[.int .i64 x,.int .u64 it] 166 2 w8.heap.size (optV s u (O.take t)) w10.heap.size) (fun w1 w2=>w1.grownBy w2 (Value.slice A t cap).ownBlock) (fun i w1 w2=>(i=10->w1.grownBy w2 (Value.slice A t cap).ownBlock)/\(i≠10->Below w1.heap.size w1 w2)) (fun j w'=>j=10->w'.ownsRow w8.heap.size 166 2 (.slice A t cap) t (optV s u (O.take t))) (fun _ _=>HOW.out _ ((Below.refl _ _).drew)) (grown_drew (World.grownBy.refl w10 _)) (fun _ _ h h'=>h.trans h') (by kernel_rfl) (by kernel_rfl) (by simp) (fun j i v w1 w2 hji _ he hg=>psG_eff j i v w1 w2 hji he hg) ?step ?last
       case step=>
        intro i o a w' K D hD hcl hi hoo hrel hfr hpre hC hK;have eS:a.eval (.tmp 4)=.pointer (some ⟨SB,0,none⟩):=hfr 4 (by simp);have eC:a.eval (.tmp 5)=.int .i64 (u:Nat):=hfr 5 (by simp);have eX:a.eval (.tmp 9)=.pointer (some ⟨w9.heap.size,0,none⟩):=hfr 9 (by simp);obtain ⟨kS,kA,k0,k1⟩:=HF.out w' hrel
        have hkeep:∀ (v:Value),i≠10->PsG SB 1 OB u n A t cap #[.int .i64 x,.int .u64 it] 166 2 w8.heap.size (optV s u (O.take t)) w10.heap.size i v w'->K (a.put o.dst v) w':=fun v h10 hv=>hK v w' (World.grownBy.refl _ _) ⟨fun e=>absurd e h10,fun _=>Below.refl _ _⟩ (fun j _ _ h=>h) hv
        have hi12:i<12:=hi;have:i=0\/i=1\/i=2\/i=3\/i=4\/i=5\/i=6\/i=7\/i=8\/i=9\/i=10\/i=11:=(by omega)
        rcases this with rfl|rfl|rfl|rfl|rfl|rfl|rfl|rfl|rfl|rfl|rfl|rfl
        all_goals
         simp only [List.getElem?_toArray,List.getElem?_cons_zero,List.getElem?_cons_succ,Option.some.injEq] at hoo;subst hoo
        ·skip
         refine oper_val (v:=.pointer (some ⟨SB,1,none⟩)) (w':=w') ?_ (hkeep _ (by decide) rfl);unfold execOp;simp only [eS]
         go_simp
        ·have p0:a.eval (.tmp 48)=.pointer (some ⟨SB,1,none⟩):=hpre ⟨0,.data⟩ (by simp) rfl;refine oper_val (v:=.slice (some ⟨OB,0,none⟩) n n) (w':=w') ?_ (hkeep _ (by decide) rfl);unfold execOp;simp only [p0]
         go_simp
        ·skip
         refine oper_val (v:=.int .i64 (u:Nat)) (w':=w') ?_ (hkeep _ (by decide) rfl);unfold execOp;simp only [eC]
         go_simp
        ·skip
         refine oper_val (v:=.pointer (some ⟨SB,1,none⟩)) (w':=w') ?_ (hkeep _ (by decide) rfl);unfold execOp;simp only [eS]
         go_simp
        ·have p0:a.eval (.tmp 51)=.pointer (some ⟨SB,1,none⟩):=hpre ⟨3,.data⟩ (by simp) rfl;refine oper_val (v:=.slice (some ⟨OB,0,none⟩) n n) (w':=w') ?_ (hkeep _ (by decide) rfl);unfold execOp;simp only [p0]
         go_simp
        ·skip
         refine oper_val (v:=.int .i64 (u:Nat)) (w':=w') ?_ (hkeep _ (by decide) rfl);unfold execOp;simp only [eC]
         go_simp
        ·have p4:a.eval (.tmp 52)=.slice (some ⟨OB,0,none⟩) n n:=hpre ⟨4,.data⟩ (by simp) rfl;have p5:a.eval (.tmp 53)=.int .i64 (u:Nat):=hpre ⟨5,.data⟩ (by simp) rfl;refine oper_val (v:=.pointer (some ⟨OB,u,none⟩)) (w':=w') ?_ (hkeep _ (by decide) rfl);unfold execOp;simp only [p4,p5]
         go_simp
        ·have p6:a.eval (.tmp 54)=.pointer (some ⟨OB,u,none⟩):=hpre ⟨6,.data⟩ (by simp) rfl;refine oper_val (v:=.slice A t cap) (w':=w') ?_ (hkeep _ (by decide) rfl);unfold execOp;simp only [p6]
         go_simp
        ·skip
         refine oper_val (v:=.agg #[.int .i64 x,.int .u64 it]) (w':=w') ?_ (hkeep _ (by decide) rfl);unfold execOp;simp only [eX]
         go_simp
        ·have p8:a.eval (.tmp 56)=.agg #[.int .i64 x,.int .u64 it]:=hpre ⟨8,.data⟩ (by simp) rfl;have p8':a.tmps[56]?.getD undef=.agg #[.int .i64 x,.int .u64 it]:=(by simpa [Act.eval] using p8);refine oper_val (v:=.slice (some ⟨w'.heap.size,0,none⟩) 1 1) (w':=w'.alloc (.cells #[.int .i64 x,.int .u64 it] 166)) ?_ (hK _ _ (only_alloc (World.grownBy.refl _ _) _) ⟨fun e=>by omega,fun _=>(Below.refl _ _).alloc (Nat.le_refl _) _⟩ (fun j hj hd h e=>own_below (h e) ((Below.refl _ _).alloc (Nat.le_refl _) _)) ⟨w'.heap.size,rfl,heap_alloc_new _ _,fun e=>by have h1:=HNE.out _ e;have h2:=hrel.size;omega⟩)
         unfold execOp
         go_simp
        ·have p7:a.eval (.tmp 55)=.slice A t cap:=hpre ⟨7,.data⟩ (by simp) rfl;obtain ⟨g9,p9,q9,_⟩:∃ g,a.eval (.tmp 57)=.slice (some ⟨g,0,none⟩) 1 1/\w'.heap[g]? =some (.cells #[.int .i64 x,.int .u64 it] 166)/\(Value.slice A t cap).ownBlock≠some g:=hpre ⟨9,.data⟩ (by simp) rfl;obtain ⟨g',cap',wz,hrun,h1,h2,h3,_⟩:=run_append_lies (P:=Tryz.prog) w' 167 167 w8.heap.size 166 i0 (.agg #[.int .i64 0,.int .u64 0]) 2 16 Tryz.underlying167 hi0 hz0 hz1 hz2 rfl (by decide) (.slice A t cap) t (optV s u (O.take t)) (hC rfl) ⟨g9,0,none⟩ 1 1 #[.int .i64 x,.int .u64 it].toList rfl (World.news_of_block (cs:= #[.int .i64 x,.int .u64 it]) q9) (by simp [Value.oneCell']) (by decide) (by simp only [maxLen];omega) (by omega) (Nat.le_trans HLO.out hrel.size) _ rfl
         refine oper_val (v:=.slice (some ⟨g',0,none⟩) (t+1) cap') (w':=wz) ?_ (hK _ _ h2 ⟨fun _=>h2,fun e=>absurd rfl e⟩ (fun j hj _ _ e=>absurd e hj) ⟨g',cap',rfl,h1,h3.imp id (fun e=>by rw [e];exact hrel.size)⟩);unfold execOp;simp only [resolve,invoke,builtin,Sem.run_bind,Sem.run_pure,Result.andThen_ok,List.map_toArray,List.map_cons,List.map_nil,p7,p9,hrun]
        ·have p1:a.eval (.tmp 49)=.slice (some ⟨OB,0,none⟩) n n:=hpre ⟨1,.data⟩ (by simp) rfl;have p2:a.eval (.tmp 50)=.int .i64 (u:Nat):=hpre ⟨2,.data⟩ (by simp) rfl;refine oper_val (v:=.pointer (some ⟨OB,u,none⟩)) (w':=w') ?_ (hkeep _ (by decide) rfl);unfold execOp;simp only [p1,p2]
         go_simp
       case last=>
        intro o a w5 hoo hrel hdef htm hfr hpre;simp only [List.length_cons,List.length_nil,Nat.reduceAdd,List.getElem?_toArray,List.getElem?_cons_zero,List.getElem?_cons_succ,Option.some.injEq] at hoo;subst hoo;have g0:a.tmps.getD 48 undef=.pointer (some ⟨SB,1,none⟩):=hpre 0 (by simp);have g1:a.tmps.getD 49 undef=.slice (some ⟨OB,0,none⟩) n n:=hpre 1 (by simp);have g2:a.tmps.getD 50 undef=.int .i64 (u:Nat):=hpre 2 (by simp);have g3:a.tmps.getD 51 undef=.pointer (some ⟨SB,1,none⟩):=hpre 3 (by simp);have g4:a.tmps.getD 52 undef=.slice (some ⟨OB,0,none⟩) n n:=hpre 4 (by simp);have g5:a.tmps.getD 53 undef=.int .i64 (u:Nat):=hpre 5 (by simp);have g6:a.tmps.getD 54 undef=.pointer (some ⟨OB,u,none⟩):=hpre 6 (by simp);have g7:a.tmps.getD 55 undef=.slice A t cap:=hpre 7 (by simp);have g8:a.tmps.getD 56 undef=.agg #[.int .i64 x,.int .u64 it]:=hpre 8 (by simp);obtain ⟨b9,g9,_⟩:∃ g,a.tmps.getD 57 undef=.slice (some ⟨g,0,none⟩) 1 1/\_:=hpre 9 (by simp);obtain ⟨g',cap',g10,h4,h5⟩:∃ g' cap',a.tmps.getD 58 undef=.slice (some ⟨g',0,none⟩) (t+1) cap'/\w5.ownsRow w8.heap.size 166 2 (.slice (some ⟨g',0,none⟩) (t+1) cap') (t+1) ((optV s u (O.take t))++(#[.int .i64 x,.int .u64 it]:Array Value).toList)/\((Value.slice A t cap).ownBlock=some g'\/w10.heap.size<=g'):=hpre 10 (by simp)
        have g11:a.tmps.getD 59 undef=.pointer (some ⟨OB,u,none⟩):=hpre 11 (by simp);have h58:a.eval (.tmp 58)=.slice (some ⟨g',0,none⟩) (t+1) cap':=g10;have h59:a.eval (.tmp 59)=.pointer (some ⟨OB,u,none⟩):=g11;have hA5:Arr w5 OB 167 (updR R u (.slice A t cap)) n:=Arr.kept HAR.out (hrel.block OB HAR.out.lt (fun e=>HNA.out e.symm));have hc5:=hA5.cell HLT.out;have hf5:=hA5.free u;refine ⟨w5.setCell ⟨OB,u,none⟩ (.slice (some ⟨g',0,none⟩) (t+1) cap'),?_,?_⟩
        ·unfold execOp;simp only [h58,h59]
         go_simp
        ·have key:=htm;simp only [List.foldl_cons,List.foldl_nil,g0,g1,g2,g3,g4,g5,g6,g7,g8,g9,g10,g11,List.setIfInBounds_toArray,List.set_cons_succ,List.set_cons_zero] at key;clear htm hfr hpre g0 g1 g2 g3 g4 g5 g6 g7 g8 g9 g10 g11 h58 h59 hc5 hf5;obtain ⟨tm,df⟩:=a
         dsimp only at key hdef
         subst key hdef;have hlt4':=(World.ownsRow.lt h4 g' rfl).1
         have h6:=own_kept h4 (grown_set (G:=OB) (i:=u) (v:=.slice (some ⟨g',0,none⟩) (t+1) cap')) (fun g e=>by
          have e1:g'=g:=(by simpa [Value.ownBlock] using e);intro e2;have e3:OB=g:=Option.some.inj e2
          omega)
         rw [<- Hpush.out] at h6;have hA6:=hA5.set u (.slice (some ⟨g',0,none⟩) (t+1) cap');rw [updR_upd] at hA6;have hg5:w8.grownBy (w5.setCell ⟨OB,u,none⟩ (.slice (some ⟨g',0,none⟩) (t+1) cap')) (some OB):=grown_tr2 (grown_ownS (grown_tr2 hg8 (grown_of_below hb10)) hrel (fun g e=>(Hown.out g e).1)) grown_set;clear hA5 h4 h5
         go_wp2
         go_roundw
         case rel=>exact ⟨t+1,some ⟨g',0,none⟩,cap',Hlt2.out,by go_num,Lib.hid hA6,h6,hg5⟩
         case measure=>have:=Hlt2.out;simp [intOf];omega
      ·obtain rfl:t=l:=by omega
       have hOt:O.take t=O:=(by rw [Hl.out,List.take_length]);rw [hOt,Hl.out,HO.out] at hown
       have hAf:=Lib.hid (show (∀ j,j<u+1->∃ A' cap',updR R u (.slice A t cap) j=.slice A' (optL s gi j).length cap'/\RdO wr w7.heap.size A' s j (optL s gi j))/\∀ j,u+1<=j->updR R u (.slice A t cap) j=.slice none 0 0 from ⟨fun j hj=>by
        by_cases e:j=u
        ·subst e;exact ⟨A,cap,by rw [updR_at,Hl.out,HO.out],rdo_own hown h78⟩
        ·obtain ⟨A',cap',e1,h1⟩:=HA8.out.1 j (by omega)
         exact ⟨A',cap',by rw [updR_ne _ _ e];exact e1,h1.midx (midx_grown (lo:=w7.heap.size) hg8) (Nat.le_refl _) (by omega)⟩,fun j hj=>by
        rw [updR_ne _ _ (by omega)];exact HA8.out.2 j (by omega)⟩)
       clear hown hOt
       go_wp2
       go_roundw
       case rel=>exact ⟨u+1,updR R u (.slice A t cap),Hlt.out,by go_num,Lib.hid ⟨hAr.out,hAf.out.1,hAf.out.2⟩,grown_tr2 Hg78.out hg8⟩
       case measure=>have:=Hlt.out;simp [intOf];omega
    ·obtain rfl:u=n:=by omega
     obtain ⟨w11,rfl⟩:∃ w11:World,w11=wr:=⟨_,rfl⟩;have h711:=hg7.size;have hq0:=grown_cell hg7 HS.out.2.1.2.2 (show w.heap.size≠OB by omega);have hs2:=grown_cell hg7 HS.out.1.2.2 (show SB≠OB from fun e=>n2 e.symm);have hR11:Arr w11 RB 24 nilR u:=grown_blk hg7 HS.out.2.2.2.2.2 n6;have hS11:=grown_blk hg7 HS.out.2.2.1 (show SB≠OB from fun e=>n2 e.symm);have hG11:=grown_blk hg7 HS.out.2.2.2.1 (show G≠OB from fun e=>n4 e.symm);have hC11:=grown_blk hg7 HS.out.2.2.2.2.1 (show w.heap.size+1≠OB by omega);have hb11:Below w.heap.size w w11:=hb07.grown hg7 hb07.size (fun k e=>by have:=Option.some.inj e;omega)
     obtain ⟨br,offr,RA,RC,hRA,hRu⟩:=rdrc_fun hr;have hrl:=hr.1;have hB11:=hb.trans (hb11.mono hBs);have H11:=Lib.hid (And.intro hS11 (And.intro hG11 (And.intro hC11 (And.intro hA.out (And.intro hb11 hR11)))));have HRu:=Lib.hid hRu;have HRA:=Lib.hid hRA;have HB11:=Lib.hid hB11;have Hq:=Lib.hid (And.intro hq0 hs2);have Hg11:=Lib.hid hg7;clear hS11 hG11 hC11 hR11 hRu hRA hA hg7 HC hB11
     go_wp2
     go_loopw [65] (fun i wr=>∃ (r:Nat) (R:Nat->Value),r<=nr/\i=.int .i64 r/\Hid (Arr wr RB 24 R u)/\Hid (∀ c,c<u->∃ A cap,R c=.slice A (ixR rs c r).length cap/\wr.ownsRow w11.heap.size 88 3 (.slice A (ixR rs c r).length cap) (ixR rs c r).length (rulV RA RC rs (ixR rs c r)))/\Hid (∀ c c',c<u->c'<u->c≠c'->∀ g,(R c).ownBlock=some g->(R c').ownBlock≠some g)/\w11.grownBy wr (some RB)) (fun i _=>nr-(intOf i).toNat)
     case atStart=>exact ⟨0,nilR,Nat.zero_le _,rfl,Lib.hid H11.out.2.2.2.2.2,Lib.hid (fun c hc=>⟨none,0,rfl,World.ownsRow_nil _ _ _ _⟩),Lib.hid (fun c c' _ _ _ g e=>by cases e),World.grownBy.refl _ _⟩
     case round=>
      obtain ⟨r,R,hr2,rfl,hA,hown,hdis,hg12⟩:=hrel
      by_cases hlt:r<nr
      ·have hltI:(r:Int)<(nr:Int):=(by omega);obtain ⟨hAre,hbr⟩:=HRA.out (by omega);obtain ⟨k0,k1,k2,hrd,hrcap⟩:=HRu.out r hlt;have hrv:rvR s (rat rs r)=true:=(pv_gv hv).2.2 r (by omega);have hix:=Lib.hid (fun c=>ixR_succ rs c r);have hpu:=Lib.hid (fun L=>rulV_push RA RC rs L r);have hlst:lastR (rat rs r)=lastN (rat rs r).xs (rat rs r).xs.length:=rfl;have hqn:lastR (rat rs r)<u:=(by rw [HN.out];exact last_lt hrv);obtain ⟨hx0,hx16⟩:=rv_cells hrv;obtain ⟨_,⟨_,hx4⟩,_,_⟩:=rv_facts rfl hrv;obtain ⟨q,hq⟩:∃ q,q=lastR (rat rs r):=⟨_,rfl⟩
       obtain ⟨rk,hrk⟩:∃ x,x=(rat rs r).k:=⟨_,rfl⟩;obtain ⟨rx,hrx⟩:∃ x,x=(rat rs r).xs:=⟨_,rfl⟩;obtain ⟨rvv,hrvv⟩:∃ x,x=(rat rs r).v:=⟨_,rfl⟩;obtain ⟨A',hA'⟩:∃ x,x=RA r:=⟨_,rfl⟩;obtain ⟨C',hC'⟩:∃ x,x=RC r:=⟨_,rfl⟩;rw [<- hq] at hix hqn hlst;rw [<- hrk] at k0 hpu;rw [<- hrx] at k1 hrd hx0 hx16 hx4 hlst hpu;rw [<- hrvv] at k2 hpu;rw [<- hA'] at k1 hrd hpu;rw [<- hC'] at k1 hpu;have hwR:w.heap.size<=RB:=(by omega);have hB12:=HB11.out.trans (Below.of_grown hg12 (Nat.le_trans hBs (Nat.le_trans hb07.size h711)) (Nat.le_trans hBs hwR));have k0:=(hB12.cell (p:=⟨br,offr+r*3,none⟩) hbr).trans k0;have k1:=(hB12.cell (p:=⟨br,offr+r*3+1,none⟩) hbr).trans k1;have k2:=(hB12.cell (p:=⟨br,offr+r*3+2,none⟩) hbr).trans k2;have s2:=grown_cell hg12 Hq.out.2 (show SB≠RB from fun e=>n3 e.symm);obtain ⟨l,hl⟩:∃ l,l=rx.length:=⟨_,rfl⟩;rw [<- hl] at k1 hrd hx0 hx4 hlst hpu
       have hx16':∀ i,i<l->0<=nth rx i/\nth rx i<16:=fun i hi=>by
        obtain ⟨a,b⟩:=hx16 i (by omega);have:s*s<=16:=(by simp at hs;rcases hs with rfl|rfl|rfl<;>omega);omega
       obtain ⟨w12,hw12⟩:∃ w12,wr.alloc (.cells #[.int .i64 rk,.slice A' l C',.int .i64 rvv] 88)=w12:=⟨_,rfl⟩;have hb12:Below wr.heap.size wr w12:=(by rw [<- hw12];exact (Below.refl _ _).alloc (Nat.le_refl _) _);have hs12:w12.heap.size=wr.heap.size+1:=(by rw [<- hw12];simp);have hr0:w12.heap[wr.heap.size]? =some (.cells #[.int .i64 rk,.slice A' l C',.int .i64 rvv] 88):=(by rw [<- hw12];exact heap_alloc_new wr _);have y0:w12.cell? ⟨wr.heap.size,0,none⟩=some (.int .i64 rk):=cell_of_row _ _ 0 _ _ (0,0) hr0;have y1:w12.cell? ⟨wr.heap.size,1,none⟩=some (.slice A' l C'):=cell_of_row _ _ 1 _ _ (0,0) hr0
       have y2:w12.cell? ⟨wr.heap.size,2,none⟩=some (.int .i64 rvv):=cell_of_row _ _ 2 _ _ (0,0) hr0;have HMx:=Lib.hid (max_any A' l C' B0 rx w12 (hrd.below (hB12.trans (hb12.mono (by have:=hB12.size;omega)))) hx0 (by omega) hx16');rw [<- hlst] at HMx;obtain ⟨A,cap,eR,hown0⟩:=hown.out q hqn;obtain ⟨ln,hln⟩:∃ ln,ln=(ixR rs q r).length:=⟨_,rfl⟩
       have hln20:ln<=20:=by
        rw [hln];exact Nat.le_trans (List.length_filter_le _ _) (by rw [List.length_range];omega)
       obtain ⟨vs,hvs⟩:∃ vs,vs=rulV RA RC rs (ixR rs q r):=⟨_,rfl⟩;rw [<- hln] at eR hown0;rw [<- hvs] at hown0;have hAl:=hA.out.lt;have hAr12:=hA.out.kept (hb12.block RB hAl);have s2':=(hb12.cell (p:=⟨SB,2,none⟩) (cell_lt s2)).trans s2;have c12:=hAr12.cell hqn;rw [eR] at c12;have HOW:=Lib.hid (fun w' (hb:Below w12.heap.size w12 w')=>own_below (own_below hown0 hb12) hb);have Hown:=Lib.hid (fun (g:Nat) (e:(Value.slice A ln cap).ownBlock=some g)=>(⟨(World.ownsRow.lt hown0 g e).1,(World.ownsRow.lt hown0 g e).2⟩:w11.heap.size<=g/\g<wr.heap.size));have HNE:=Lib.hid (fun (g:Nat) (e:(Value.slice A ln cap).ownBlock=some g)=>show g<w12.heap.size from by have:=Hown.out g e;omega);have hRB11:RB<w11.heap.size:=(by omega);have hSB11:SB<w11.heap.size:=(by omega);have HNA:=Lib.hid (show (Value.slice A ln cap).ownBlock≠some RB from fun e=>by have:=Hown.out RB e;omega);have hw11:=hg12.size;have HLO:=Lib.hid (show w11.heap.size<=w12.heap.size by omega);have HAR:=Lib.hid hAr12;have HLT:=Lib.hid hqn;have HF:=Lib.hid (fun (w':World) (hg:w12.grownBy w' (Value.slice A ln cap).ownBlock)=>(⟨(hg.cell_far ⟨SB,2,none⟩ (cell_lt s2') (fun e=>by have:=Hown.out SB e.symm;omega)).trans s2',(hg.cell_far ⟨RB,q,none⟩ (cell_lt c12) (fun e=>by have:=Hown.out RB e.symm;omega)).trans c12,(hg.cell_far ⟨wr.heap.size,0,none⟩ (cell_lt y0) (fun e=>by have:=Hown.out wr.heap.size e.symm;omega)).trans y0,(hg.cell_far ⟨wr.heap.size,1,none⟩ (cell_lt y1) (fun e=>by have:=Hown.out wr.heap.size e.symm;omega)).trans y1,(hg.cell_far ⟨wr.heap.size,2,none⟩ (cell_lt y2) (fun e=>by have:=Hown.out wr.heap.size e.symm;omega)).trans y2⟩:w'.cell? ⟨SB,2,none⟩=some (.slice (some ⟨RB,0,none⟩) u u)/\w'.cell? ⟨RB,q,none⟩=some (.slice A ln cap)/\w'.cell? ⟨wr.heap.size,0,none⟩=some (.int .i64 rk)/\w'.cell? ⟨wr.heap.size,1,none⟩=some (.slice A' l C')/\w'.cell? ⟨wr.heap.size,2,none⟩=some (.int .i64 rvv)))
       obtain ⟨i0,hi0,hz0,hz1,hz2⟩:=info_parts rule_parts;have Hqn:(q:Int)<(u:Int):=(by omega);have HlnQ:=Lib.hid (And.intro hln (And.intro hvs eR));have Hq2:=Lib.hid hq;have Hb12:=Lib.hid hb12;have Hlt:=Lib.hid hlt;have Hg12:=Lib.hid hg12;subst hAre;clear hln hvs eR hq hb12 hlst hrk hrx hrvv hA' hC' hown0 hAr12 c12 s2' hl hrv hrd hx16 hx16' hB12 hr0
       go_wp2_with (go_at_call 165;refine HMx.out.mono ?_;rintro e wq ⟨rfl,rfl⟩)
       refine wp_region_dsS [72,73,74,75,76,77,78,79,80,81,82,83] (PsG SB 2 RB q u A ln cap #[.int .i64 rk,.slice A' l C',.int .i64 rvv] 88 3 w11.heap.size vs w12.heap.size) (fun w1 w2=>w1.grownBy w2 (Value.slice A ln cap).ownBlock) (fun i w1 w2=>(i=10->w1.grownBy w2 (Value.slice A ln cap).ownBlock)/\(i≠10->Below w1.heap.size w1 w2)) (fun j w'=>j=10->w'.ownsRow w11.heap.size 88 3 (.slice A ln cap) ln vs) (fun _ _=>HOW.out _ ((Below.refl _ _).drew)) (grown_drew (World.grownBy.refl w12 _)) (fun _ _ h h'=>h.trans h') (by kernel_rfl) (by kernel_rfl) (by simp) (fun j i v w1 w2 hji _ he hg=>psG_eff j i v w1 w2 hji he hg) ?step ?last
       case step=>
        intro i o a w' K D hD hcl hi hoo hrel hfr hpre hC hK;have eS:a.eval (.tmp 4)=.pointer (some ⟨SB,0,none⟩):=hfr 4 (by simp);have eC:a.eval (.tmp 12)=.int .i64 (q:Nat):=hfr 12 (by simp);have eX:a.eval (.tmp 11)=.pointer (some ⟨wr.heap.size,0,none⟩):=hfr 11 (by simp);obtain ⟨kS,kA,k0,k1,k2⟩:=HF.out w' hrel
        have hkeep:∀ (v:Value),i≠10->PsG SB 2 RB q u A ln cap #[.int .i64 rk,.slice A' l C',.int .i64 rvv] 88 3 w11.heap.size vs w12.heap.size i v w'->K (a.put o.dst v) w':=fun v h10 hv=>hK v w' (World.grownBy.refl _ _) ⟨fun e=>absurd e h10,fun _=>Below.refl _ _⟩ (fun j _ _ h=>h) hv
        have hi12:i<12:=hi;have:i=0\/i=1\/i=2\/i=3\/i=4\/i=5\/i=6\/i=7\/i=8\/i=9\/i=10\/i=11:=(by omega)
        rcases this with rfl|rfl|rfl|rfl|rfl|rfl|rfl|rfl|rfl|rfl|rfl|rfl
        all_goals
         simp only [List.getElem?_toArray,List.getElem?_cons_zero,List.getElem?_cons_succ,Option.some.injEq] at hoo;subst hoo
        ·skip
         refine oper_val (v:=.pointer (some ⟨SB,2,none⟩)) (w':=w') ?_ (hkeep _ (by decide) rfl);unfold execOp;simp only [eS]
         go_simp
        ·have p0:a.eval (.tmp 72)=.pointer (some ⟨SB,2,none⟩):=hpre ⟨0,.data⟩ (by simp) rfl;refine oper_val (v:=.slice (some ⟨RB,0,none⟩) u u) (w':=w') ?_ (hkeep _ (by decide) rfl);unfold execOp;simp only [p0]
         go_simp
        ·skip
         refine oper_val (v:=.int .i64 (q:Nat)) (w':=w') ?_ (hkeep _ (by decide) rfl);unfold execOp;simp only [eC]
         go_simp
        ·skip
         refine oper_val (v:=.pointer (some ⟨SB,2,none⟩)) (w':=w') ?_ (hkeep _ (by decide) rfl);unfold execOp;simp only [eS]
         go_simp
        ·have p0:a.eval (.tmp 75)=.pointer (some ⟨SB,2,none⟩):=hpre ⟨3,.data⟩ (by simp) rfl;refine oper_val (v:=.slice (some ⟨RB,0,none⟩) u u) (w':=w') ?_ (hkeep _ (by decide) rfl);unfold execOp;simp only [p0]
         go_simp
        ·skip
         refine oper_val (v:=.int .i64 (q:Nat)) (w':=w') ?_ (hkeep _ (by decide) rfl);unfold execOp;simp only [eC]
         go_simp
        ·have p4:a.eval (.tmp 76)=.slice (some ⟨RB,0,none⟩) u u:=hpre ⟨4,.data⟩ (by simp) rfl;have p5:a.eval (.tmp 77)=.int .i64 (q:Nat):=hpre ⟨5,.data⟩ (by simp) rfl;refine oper_val (v:=.pointer (some ⟨RB,q,none⟩)) (w':=w') ?_ (hkeep _ (by decide) rfl);unfold execOp;simp only [p4,p5]
         go_simp
        ·have p6:a.eval (.tmp 78)=.pointer (some ⟨RB,q,none⟩):=hpre ⟨6,.data⟩ (by simp) rfl;refine oper_val (v:=.slice A ln cap) (w':=w') ?_ (hkeep _ (by decide) rfl);unfold execOp;simp only [p6]
         go_simp
        ·skip
         refine oper_val (v:=.agg #[.int .i64 rk,.slice A' l C',.int .i64 rvv]) (w':=w') ?_ (hkeep _ (by decide) rfl);unfold execOp;simp only [eX]
         go_simp
        ·have p8:a.eval (.tmp 80)=.agg #[.int .i64 rk,.slice A' l C',.int .i64 rvv]:=hpre ⟨8,.data⟩ (by simp) rfl;have p8':a.tmps[80]?.getD undef=.agg #[.int .i64 rk,.slice A' l C',.int .i64 rvv]:=(by simpa [Act.eval] using p8);refine oper_val (v:=.slice (some ⟨w'.heap.size,0,none⟩) 1 1) (w':=w'.alloc (.cells #[.int .i64 rk,.slice A' l C',.int .i64 rvv] 88)) ?_ (hK _ _ (only_alloc (World.grownBy.refl _ _) _) ⟨fun e=>by omega,fun _=>(Below.refl _ _).alloc (Nat.le_refl _) _⟩ (fun j hj hd h e=>own_below (h e) ((Below.refl _ _).alloc (Nat.le_refl _) _)) ⟨w'.heap.size,rfl,heap_alloc_new _ _,fun e=>by have h1:=HNE.out _ e;have h2:=hrel.size;omega⟩)
         unfold execOp
         go_simp
        ·have p7:a.eval (.tmp 79)=.slice A ln cap:=hpre ⟨7,.data⟩ (by simp) rfl;obtain ⟨g9,p9,q9,_⟩:∃ g,a.eval (.tmp 81)=.slice (some ⟨g,0,none⟩) 1 1/\w'.heap[g]? =some (.cells #[.int .i64 rk,.slice A' l C',.int .i64 rvv] 88)/\(Value.slice A ln cap).ownBlock≠some g:=hpre ⟨9,.data⟩ (by simp) rfl;obtain ⟨g',cap',wz,hrun,h1,h2,h3,_⟩:=run_append_lies (P:=Tryz.prog) w' 24 24 w11.heap.size 88 i0 (.agg #[.int .i64 0,.slice none 0 0,.int .i64 0]) 3 40 Tryz.underlying24 hi0 hz0 hz1 hz2 rfl (by decide) (.slice A ln cap) ln vs (hC rfl) ⟨g9,0,none⟩ 1 1 #[.int .i64 rk,.slice A' l C',.int .i64 rvv].toList rfl (World.news_of_block (cs:= #[.int .i64 rk,.slice A' l C',.int .i64 rvv]) q9) (by simp [Value.oneCell']) (by decide) (by simp only [maxLen];omega) (by omega) (Nat.le_trans HLO.out hrel.size) _ rfl
         refine oper_val (v:=.slice (some ⟨g',0,none⟩) (ln+1) cap') (w':=wz) ?_ (hK _ _ h2 ⟨fun _=>h2,fun e=>absurd rfl e⟩ (fun j hj _ _ e=>absurd e hj) ⟨g',cap',rfl,h1,h3.imp id (fun e=>by rw [e];exact hrel.size)⟩);unfold execOp;simp only [resolve,invoke,builtin,Sem.run_bind,Sem.run_pure,Result.andThen_ok,List.map_toArray,List.map_cons,List.map_nil,p7,p9,hrun]
        ·have p1:a.eval (.tmp 73)=.slice (some ⟨RB,0,none⟩) u u:=hpre ⟨1,.data⟩ (by simp) rfl;have p2:a.eval (.tmp 74)=.int .i64 (q:Nat):=hpre ⟨2,.data⟩ (by simp) rfl;refine oper_val (v:=.pointer (some ⟨RB,q,none⟩)) (w':=w') ?_ (hkeep _ (by decide) rfl);unfold execOp;simp only [p1,p2]
         go_simp
       case last=>
        intro o a w5 hoo hrel hdef htm hfr hpre;simp only [List.length_cons,List.length_nil,Nat.reduceAdd,List.getElem?_toArray,List.getElem?_cons_zero,List.getElem?_cons_succ,Option.some.injEq] at hoo;subst hoo;have g0:a.tmps.getD 72 undef=.pointer (some ⟨SB,2,none⟩):=hpre 0 (by simp);have g1:a.tmps.getD 73 undef=.slice (some ⟨RB,0,none⟩) u u:=hpre 1 (by simp);have g2:a.tmps.getD 74 undef=.int .i64 (q:Nat):=hpre 2 (by simp);have g3:a.tmps.getD 75 undef=.pointer (some ⟨SB,2,none⟩):=hpre 3 (by simp);have g4:a.tmps.getD 76 undef=.slice (some ⟨RB,0,none⟩) u u:=hpre 4 (by simp);have g5:a.tmps.getD 77 undef=.int .i64 (q:Nat):=hpre 5 (by simp);have g6:a.tmps.getD 78 undef=.pointer (some ⟨RB,q,none⟩):=hpre 6 (by simp);have g7:a.tmps.getD 79 undef=.slice A ln cap:=hpre 7 (by simp);have g8:a.tmps.getD 80 undef=.agg #[.int .i64 rk,.slice A' l C',.int .i64 rvv]:=hpre 8 (by simp);obtain ⟨b9,g9,_⟩:∃ g,a.tmps.getD 81 undef=.slice (some ⟨g,0,none⟩) 1 1/\_:=hpre 9 (by simp);obtain ⟨g',cap',g10,h4,h5⟩:∃ g' cap',a.tmps.getD 82 undef=.slice (some ⟨g',0,none⟩) (ln+1) cap'/\w5.ownsRow w11.heap.size 88 3 (.slice (some ⟨g',0,none⟩) (ln+1) cap') (ln+1) (vs++(#[.int .i64 rk,.slice A' l C',.int .i64 rvv]:Array Value).toList)/\((Value.slice A ln cap).ownBlock=some g'\/w12.heap.size<=g'):=hpre 10 (by simp)
        have g11:a.tmps.getD 83 undef=.pointer (some ⟨RB,q,none⟩):=hpre 11 (by simp);have h58:a.eval (.tmp 82)=.slice (some ⟨g',0,none⟩) (ln+1) cap':=g10;have h59:a.eval (.tmp 83)=.pointer (some ⟨RB,q,none⟩):=g11;have hA5:Arr w5 RB 24 R u:=Arr.kept HAR.out (hrel.block RB HAR.out.lt (fun e=>HNA.out e.symm));have hc5:=hA5.cell HLT.out;have hf5:=hA5.free q;refine ⟨w5.setCell ⟨RB,q,none⟩ (.slice (some ⟨g',0,none⟩) (ln+1) cap'),?_,?_⟩
        ·unfold execOp;simp only [h58,h59]
         go_simp
        ·have key:=htm;simp only [List.foldl_cons,List.foldl_nil,g0,g1,g2,g3,g4,g5,g6,g7,g8,g9,g10,g11,List.setIfInBounds_toArray,List.set_cons_succ,List.set_cons_zero] at key;clear htm hfr hpre g0 g1 g2 g3 g4 g5 g6 g7 g8 g9 g10 g11 h58 h59 hc5 hf5;obtain ⟨tm,df⟩:=a
         dsimp only at key hdef
         subst key hdef;have hlt4':=(World.ownsRow.lt h4 g' rfl)
         have h6:=own_kept h4 (grown_set (G:=RB) (i:=q) (v:=.slice (some ⟨g',0,none⟩) (ln+1) cap')) (fun g e=>by
          have e1:g'=g:=(by simpa [Value.ownBlock] using e);intro e2;have e3:RB=g:=Option.some.inj e2
          omega)
         have hA6:=hA5.set q (.slice (some ⟨g',0,none⟩) (ln+1) cap');have hg5:w11.grownBy (w5.setCell ⟨RB,q,none⟩ (.slice (some ⟨g',0,none⟩) (ln+1) cap')) (some RB):=grown_tr2 (grown_ownS (grown_tr2 Hg12.out (grown_of_below Hb12.out)) hrel (fun g e=>(Hown.out g e).1)) grown_set;obtain ⟨eln,evs,eR⟩:=HlnQ.out;have eqq:lastR (rat rs r)=q:=Hq2.out.symm
         have HOW6:=Lib.hid (show ∀ c,c<u->∃ A cap,updR R q (.slice (some ⟨g',0,none⟩) (ln+1) cap') c=.slice A (ixR rs c (r+1)).length cap/\(w5.setCell ⟨RB,q,none⟩ (.slice (some ⟨g',0,none⟩) (ln+1) cap')).ownsRow w11.heap.size 88 3 (.slice A (ixR rs c (r+1)).length cap) (ixR rs c (r+1)).length (rulV RA RC rs (ixR rs c (r+1))) from fun c hc=>by
          by_cases e:c=q
          ·subst e;have e1:ixR rs c (r+1)=ixR rs c r++[r]:=(by rw [ixR_succ,if_pos eqq]);refine ⟨some ⟨g',0,none⟩,cap',by rw [updR_at,e1,List.length_append,eln];rfl,?_⟩;rw [e1,List.length_append,List.length_singleton,<-eln,hpu.out,<-evs];exact h6
          ·have e1:ixR rs c (r+1)=ixR rs c r:=(by rw [ixR_succ,if_neg (fun e2=>e (by rw [<- e2];exact eqq)),List.append_nil]);obtain ⟨A2,cap2,e2,h2⟩:=hown.out c hc;rw [e1];refine ⟨A2,cap2,by rw [updR_ne _ _ e];exact e2,own_kept (own_kept (own_below h2 Hb12.out) hrel (fun g e3 e4=>?_)) (grown_set (G:=RB) (i:=q) (v:=.slice (some ⟨g',0,none⟩) (ln+1) cap')) (fun g e3 e4=>?_)⟩
           ·exact hdis.out c q hc HLT.out e g (by rw [e2];exact e3) (by rw [eR];exact e4)
           ·have:=(World.ownsRow.lt h2 g e3).1;have:=Option.some.inj e4
            omega)
         have HDI6:=Lib.hid (show ∀ c c',c<u->c'<u->c≠c'->∀ g,(updR R q (.slice (some ⟨g',0,none⟩) (ln+1) cap') c).ownBlock=some g->(updR R q (.slice (some ⟨g',0,none⟩) (ln+1) cap') c').ownBlock≠some g from by
          have key:∀ c,c<u->c≠q->(R c).ownBlock≠some g':=fun c hc hne e=>by
           rcases h5 with h5|h5
           ·exact hdis.out c q hc HLT.out hne g' e (by rw [eR];exact h5)
           ·obtain ⟨A2,cap2,e2,h2⟩:=hown.out c hc;rw [e2] at e;have:=(World.ownsRow.lt h2 g' e).2;omega
          intro c c' hc hc' hne g e e'
          by_cases h1:c=q
          ·subst h1;rw [updR_at] at e;have eg:g'=g:=(by simpa [Value.ownBlock] using e);subst eg;rw [updR_ne _ _ (fun e2=>hne e2.symm)] at e';exact key c' hc' (fun e2=>hne e2.symm) e'
          ·rw [updR_ne _ _ h1] at e
           by_cases h2:c'=q
           ·subst h2;rw [updR_at] at e';have eg:g'=g:=(by simpa [Value.ownBlock] using e');subst eg;exact key c hc h1 e
           ·rw [updR_ne _ _ h2] at e'
            exact hdis.out c c' hc hc' hne g e e')
         have hA6':=Lib.hid hA6;clear hA5 h4 h5 h6 hA6 hlt4' eln evs eR eqq
         go_wp2
         go_roundw
         case rel=>exact ⟨r+1,updR R q (.slice (some ⟨g',0,none⟩) (ln+1) cap'),Hlt.out,by go_num,hA6',HOW6,HDI6,hg5⟩
         case measure=>have:=Hlt.out;simp [intOf];omega
      ·obtain rfl:r=nr:=by omega
       have q1:=grown_blk hg12 H11.out.1 (show SB≠RB from fun e=>n3 e.symm);have q2:=grown_blk hg12 H11.out.2.1 (show G≠RB from fun e=>n5 e.symm);have q3:=grown_blk hg12 H11.out.2.2.1 (show w.heap.size+1≠RB by omega);have hA11:=H11.out.2.2.2.1;have hAo:Arr wr OB 167 _ u:=grown_blk hg12 hA11.1 (show OB≠RB from fun e=>n6 e.symm);have hbw:=H11.out.2.2.2.2.1.grown hg12 H11.out.2.2.2.2.1.size (fun k e=>by have:=Option.some.inj e;omega)
       have hSR:SR W0 B0 s gi rs OB RB w7.heap.size wr:=fun c hc=>by
        have hcu:c<u:=(by rw [HN.out];exact hc);obtain ⟨A1,cap1,e1,h1⟩:=hA11.2.1 c hcu;obtain ⟨A2,cap2,e2,h2⟩:=hown.out c hcu;have hlen:(rulesAt rs c).length=(ixR rs c r).length:=(by rw [rulesAt_ix,List.length_map,hrl]);refine ⟨⟨A1,cap1,(hAo.cell hcu).trans (by rw [e1]),h1.midx (midx_grown (lo:=w7.heap.size) hg12) (Nat.le_refl _) (by omega)⟩,A2,cap2,by rw [hlen,<-e2];exact hA.out.cell hcu,?_⟩;rw [<- hrl] at h2
        exact rdw_own h2 rfl h711 (fun i hi=>by
         obtain ⟨_,_,_,r3,r4⟩:=HRu.out i (by omega)
         exact ⟨r3,r4⟩)
       have hsw:=hg12.size;have hgs:wr.grownBy (wr.setRow (w.heap.size+1) #[.slice (some ⟨G,0,none⟩) u u,.slice (some ⟨OB,0,none⟩) u u,.slice (some ⟨RB,0,none⟩) u u]) (some (w.heap.size+1)):=grown_sr;have hSR2:=Lib.hid (hSR.midx (midx_grown (lo:=w.heap.size) hgs) ⟨by omega,by omega⟩ ⟨by omega,by omega⟩ (by omega) (by omega));have hO2:=Lib.hid (ow_row (lo:=w.heap.size) (grown_blk hgs q2 (by omega)) (by omega) (by omega));have hB2:=Lib.hid (hbw.grown hgs hbw.size (fun k e=>by have:=Option.some.inj e;omega));have hsz2:=Lib.hid (show w7.heap.size<=(wr.setRow (w.heap.size+1) #[.slice (some ⟨G,0,none⟩) u u,.slice (some ⟨OB,0,none⟩) u u,.slice (some ⟨RB,0,none⟩) u u]).heap.size from Nat.le_trans (by omega) hgs.size)
       have hst:=Lib.hid (setRow_heap (w:=wr) (w.heap.size+1) _ #[.slice (some ⟨G,0,none⟩) u u,.slice (some ⟨OB,0,none⟩) u u,.slice (some ⟨RB,0,none⟩) u u] 133 _ q3);have Q1:=Lib.hid q1;have Q3:=Lib.hid q3;clear q1 q2 q3 hAo hA11 hSR hgs hA hown hdis hbw
       go_wp2_with (first
        |(refine wpList_load_row rfl 133 _ rfl SB rfl 133 #[.slice (some ⟨G,0,none⟩) u u,.slice (some ⟨OB,0,none⟩) u u,.slice (some ⟨RB,0,none⟩) u u] (0,0) _ Q1.out Tryz.underlying133 rfl (Hi.out _ _ _) ?_)
        |(refine wpList_store_row rfl 133 _ _ rfl (w.heap.size+1) #[.slice (some ⟨G,0,none⟩) u u,.slice (some ⟨OB,0,none⟩) u u,.slice (some ⟨RB,0,none⟩) u u] rfl rfl 133 #[.slice none 0 0,.slice none 0 0,.slice none 0 0] Q3.out (Hi.out _ _ _) rfl (by simp [Value.oneCell']) ?_))
       refine bodyPost_ret (v:=sVal G OB RB u) (results_cell_row (by rfl) _ _ (w.heap.size+1) 133 _ (0,0) _ rfl hst.out Tryz.underlying133 rfl (Hi.out _ _ _)) rfl ?_;exact ⟨G,OB,RB,w7.heap.size,rfl,⟨by omega,by omega,by omega,by omega,by omega,n4,n5,by omega,by omega⟩,hsz2.out,hSR2.out,hO2.out,hB2.out⟩
end Go.Proofs.YtkeoflnmbcdmfaaGreatDoor
set_option maxRecDepth 8000
namespace Go.Proofs.YtkeoflnmbcdmfaaGreatDoor
open Go.ChangeShapes Go.WideShapes Go.ChangeAt Go.RowKit Go.Shelf
attribute [local go_sem] Oper.semAt_some
theorem covSplit {J:List (List Int)->World->Prop} {Jx:World->Prop} {M lo G n:Nat} {vs:List Int} {X Y:World} {ways:List (List Int)} {e:Ending} (h:CovPost J Jx M lo G n vs X ways e Y):∃ bb:Bool,e=.returned (.bool bb)/\(bb=true->J ways Y/\MidX M G X Y/\∃ zs,Ow Y lo (some ⟨G,0,none⟩) n n zs/\∀ i,i<vs.length->nth zs i=nth vs i)/\(bb=false->Jx Y):=by
 rcases h with ⟨rfl,h1,h2,h3⟩|⟨rfl,h1⟩
 ·exact ⟨true,rfl,fun _=>⟨h1,h2,h3⟩,fun h=>by cases h⟩
 ·exact ⟨false,rfl,fun h=>(by cases h),fun _=>h1⟩
set_option maxHeartbeats 4000000 in
theorem cover_any {T:List (List Int)} {l:Nat} {W0:World} {B0 G OB RB L M lo s n:Nat} {gi:List Int} {rs:List RuleM} {J:List (List Int)->World->Prop} {Jx:World->Prop}
 (hv:pvB s gi rs=true) (hs:s∈[2,3,4]) (hn:n=s*s) (hok:∀ i,i<n->0<=nth gi i/\nth gi i<=(s:Int)) (hB0:B0<=W0.heap.size) (hT:∀ X,Below B0 W0 X->Tz X)
 (hM:M<=G/\M<=OB/\M<=RB/\M<=L/\G<L/\OB≠G/\RB≠G/\OB<L/\RB<L/\lo<=G)
 (hJ0:∀ pre X,J pre X->Below B0 W0 X)
 (hJ:∀ pre X Y,J pre X->X.grownBy Y (some G)->J pre Y)
 (hcb:∀ pre ys X,(∃ zs,T=pre++ys::zs)->J pre X->Ow X lo (some ⟨G,0,none⟩) n n ys->YieldAt Fence.wide 0 Tryz.prog l #[.slice (some ⟨G,0,none⟩) n n] X fun e Y=>∃ bb,e=.returned (.bool bb)/\((bb=true/\J (pre++[ys]) Y/\MidX M G X Y/\Ow Y lo (some ⟨G,0,none⟩) n n ys)\/(bb=false/\Jx Y))):
 ∀ (f p:Nat) (vs ys0:List Int) (pre:List (List Int)) (X:World),p+f=n->vs.length=p->J pre X->L<=X.heap.size->SR W0 B0 s gi rs OB RB L X->Ow X lo (some ⟨G,0,none⟩) n n ys0->(∀ i,i<p->nth ys0 i=nth vs i)->(∀ i,i<p->1<=nth vs i/\nth vs i<=(s:Int))->(∀ q,q<p->noConf s (vs.take (q+1)) q=true)->(∃ zs,T=pre++(cv s gi rs f vs++zs))->
   Calls Tryz.prog 125 #[sVal G OB RB n,.int .u64 (lf s vs p:Nat),.func (.yield l) #[] #[]] X (CovPost J Jx M lo G n vs X (pre++cv s gi rs f vs)):=by
 have hn16:n<=16:=by simp at hs;rcases hs with rfl|rfl|rfl<;>omega
 have hr:=(pv_gv hv).2.2;intro f
 induction f with
 |zero=>
  intro p vs ys0 pre X hp hl hj hLX hSR ho hys hvs hnc hin
  obtain rfl:p=n:=by omega
  obtain rfl:ys0=vs:=ext_nth (by rw [ho.len,hl]) (fun k hk=>hys k (by rw [ho.len] at hk;exact hk))
  have hz:lf s ys0 p=0:=by
   have:=lf_done hs (us:=ys0) (by omega) (fun i hi=>hvs i (by omega)) (fun q hq=>hnc q (by omega));rwa [<- hn] at this
  rw [hz];unfold sVal;have hx0:=sbox_new X G OB RB p 133;obtain ⟨X1,hX1⟩:∃ X1,X.alloc (.cells #[.slice (some ⟨G,0,none⟩) p p,.slice (some ⟨OB,0,none⟩) p p,.slice (some ⟨RB,0,none⟩) p p] 133)=X1:=⟨_,rfl⟩;rw [hX1] at hx0
  have hb0:Below X.heap.size X X1:=by rw [<- hX1];exact (Below.refl _ _).alloc (Nat.le_refl _) _
  obtain ⟨c0,c1,c2⟩:=id hx0;obtain ⟨fn,tmps,assign,body,hyy,hR⟩:=hcb pre ys0 X1 (by obtain ⟨zs,e⟩:=hin;exact ⟨zs,by rw [e];simp [cv]⟩) (hJ _ _ _ hj (grown_of_below hb0)) (ho.below hb0);clear hcb hJ hin hnc hvs hys hx0 hn hp hz hok hs hr hM;refine (callsIn_wide (n:=9)).1 ?_;refine callsIn_of_wp Tryz.func125 rfl trivial ?_ rfl;simp only [Tryz.ntmps125,List.size_toArray,List.length_cons,List.length_nil,Nat.reduceAdd,Nat.reduceSub,Array.replicate_succ,Array.replicate_zero,List.push_toArray,List.append_toArray,List.nil_append,List.cons_append]
  gi_wp2
  refine (roundIn_any hR).mono ?_;rintro e Y ⟨bb,rfl,hR'⟩
  gi_wp2
  go_ret
  rcases hR' with ⟨rfl,q1,q2,q3⟩|⟨rfl,q1⟩
  ·exact .inl ⟨rfl,by simpa [cv] using q1,(midx_below hb0).trans q2,ys0,q3,fun _ _=>rfl⟩
  ·exact .inr ⟨rfl,q1⟩
 |succ f ih=>
  intro p vs ys0 pre X hp hl hj hLX hSR ho hys hvs hnc hin
  have hpn:p<s*s:=by omega
  have hvo:vsOk s vs p:=fun i hi=>by have:=hvs i hi;omega
  obtain ⟨lb1,lb2⟩:=lf_low hs hpn hvo;have hl64:=lf_lt64 hs vs p;have hconf:=Lib.hid (fun (t:Nat) (t1:1<=t) (t2:t<=s)=>lf_conf hs hpn hl hvo t1 t2)
  have hlf1:=Lib.hid (fun (t:Nat)=>show lf s (vs++[(t:Int)]) (p+1)=anU (lf s vs p) (itN s p t) by
   simp only [lf]
   rw [lf_congr (us':=vs) (fun i hi=>by rw [nth_push hl,if_pos hi]),nth_push hl,if_neg (by omega),if_pos rfl,Int.toNat_natCast])
  obtain ⟨F,hF⟩:∃ F:Int->List (List Int),F=fun v=>if stB s rs (vs++[v]) p=true then cv s gi rs f (vs++[v]) else []:=⟨_,rfl⟩
  have hcv:cv s gi rs (f+1) vs=(optL s gi p).flatMap F:=by rw [hF];simp only [cv,hl,optL]
  obtain ⟨⟨A,cap,e1,e2⟩,A',cap',e3,e4⟩:=hSR p hpn;obtain ⟨O,hO⟩:∃ O,O=optL s gi p:=⟨_,rfl⟩
  have hOl:O.length=(bitsTo (candN gi s p) 4).length:=by rw [hO];rfl
  have Hopt:=Lib.hid (fun v (hv:v∈O)=>opt_in (hok p (by omega)) (by rw [<- hO];exact hv));rw [<- hO] at hcv e1 e2;have Hcv:=Lib.hid hcv;rw [hcv] at hin ⊢;have Hin:=Lib.hid hin;have HF:=Lib.hid hF;clear hF hO hcv hin;have hx0:=sbox_new X G OB RB n 133;obtain ⟨X1,hX1⟩:∃ X1,X.alloc (.cells #[.slice (some ⟨G,0,none⟩) n n,.slice (some ⟨OB,0,none⟩) n n,.slice (some ⟨RB,0,none⟩) n n] 133)=X1:=⟨_,rfl⟩;rw [hX1] at hx0
  have hb0:Below X.heap.size X X1:=by rw [<- hX1];exact (Below.refl _ _).alloc (Nat.le_refl _) _
  have hsX1:X1.heap.size=X.heap.size+1:=by rw [<- hX1];simp
  have hm0:MidX M G X X1:=midx_below hb0;have hj1:=hJ _ _ _ hj (grown_of_below hb0);have ho1:=ho.below hb0;have hSR1:=hSR.midx hm0 ⟨hM.2.1,hM.2.2.2.2.2.1⟩ ⟨hM.2.2.1,hM.2.2.2.2.2.2.1⟩ hM.2.2.2.1 hM.2.2.2.2.1;have e1:=hm0.cell e1 hM.2.1 hM.2.2.2.2.2.1;have HO:=Lib.hid (e2.midx hm0 hM.2.2.2.1 hM.2.2.2.2.1);have HR:=Lib.hid (And.intro (hm0.cell e3 hM.2.2.1 hM.2.2.2.2.2.2.1) (e4.midx hm0 hM.2.2.2.1 hM.2.2.2.2.1));obtain ⟨c0,c1,c2⟩:=id hx0;obtain ⟨LF,hLF⟩:∃ LF,LF=lf s vs p:=⟨_,rfl⟩;rw [<- hLF] at lb1 lb2 hl64 hconf hlf1 ⊢;have HT:=Lib.hid (tz64_any LF p X1 hl64 lb1 lb2 (by omega) (hT X1 (hJ0 _ _ hj1)))
  have hLF0:((LF:Int)==0)=false:=by
   rw [beq_eq_false_iff_ne];intro e;have:LF=0:=(by omega);rw [this,Nat.zero_testBit] at lb1;cases lb1
  have hpI:(p:Int)<(n:Int):=by omega
  obtain ⟨l0,hl0⟩:∃ l0,l0=O.length:=⟨_,rfl⟩;rw [<- hl0] at e1
  have hl04:l0<=4:=by rw [hl0,hOl];exact bitsTo_length _ _
  have Hl0:=Lib.hid hl0;have Hl:=Lib.hid hl;have Hx0:=Lib.hid hx0;have HM:=Lib.hid hM;have HSR1:=Lib.hid hSR1;have Hvs:=Lib.hid hvs;have Hnc:=Lib.hid hnc;have Hys:=Lib.hid hys;have Hb0:=Lib.hid hb0;have Hm0:=Lib.hid hm0;have Hp:=Lib.hid hp;have Hh:=Lib.hid (And.intro hv (And.intro hs hn));have Hr:=Lib.hid hr;have HLF64:=Lib.hid hl64;have HQL:=Lib.hid (show (rulesAt rs p).length<=1099511627776 from Nat.le_trans (List.length_filter_le _ _) (by have:=(pv_gv hv).2.1;omega));clear hOl hl0 hl hx0 hM hSR1 hSR hvs hnc hys hb0 hm0 hp lb1 lb2 hj ho e2 e3 e4 hvo hLF hv hs hn hr hl64;unfold sVal
  go_enter Tryz.func125,Tryz.ntmps125
  go_wp2_with (go_at_call 166;refine HT.out.mono ?_;rintro e wq ⟨rfl,rfl⟩)
  go_loopw [24] (fun v wr=>∃ (u:Nat) (ys:List Int),u<=l0/\v=.int .i64 u/\J (pre++(O.take u).flatMap F) wr/\MidX M G X1 wr/\Ow wr lo (some ⟨G,0,none⟩) n n ys/\∀ i,i<p->nth ys i=nth vs i) (fun v _=>l0-(intOf v).toNat)
  case atStart=>exact ⟨0,ys0,Nat.zero_le _,rfl,by simpa using hj1,⟨Nat.le_refl _,fun _ _ _ _=>rfl⟩,ho1,Hys.out⟩
  case round=>
   clear hj1 ho1 c0 c1 c2 e1 HT;obtain ⟨u,ys,hu,rfl,hj,hm,ho,hys⟩:=hrel;obtain ⟨m1,m2,m3,m4,m5,m6,m7,m8,m9,m10⟩:=HM.out;have hXG:X.heap.size≠G:=(by omega);have hMX:M<=X.heap.size:=(by omega);have hxw:=Hx0.out.midx hm hMX hXG;have hsw:=hm.size
   by_cases hlt:u<l0
   ·have hltI:(u:Int)<(l0:Int):=(by omega);have Hlt:=Lib.hid hlt;have huO:u<O.length:=(by rw [<- Hl0.out];exact hlt);obtain ⟨t,ht,t1,t2⟩:=Hopt.out _ (nth_mem huO);obtain ⟨b,rfl,hbL,hcc⟩:=HO.out.midx hm m4 m5 (by omega);obtain ⟨k0,k1⟩:=hcc u huO;rw [ht,Int.toNat_natCast] at k1;rw [ht] at k0;have hts4:t<=4:=(by have:=Hh.out.2.1;simp at this;omega);have hit64:=it_lt64 Hh.out.2.1 hpn t1 t2;obtain ⟨it,hit⟩:∃ it,it=itN s p t:=⟨_,rfl⟩;rw [<- hit] at k1 hit64;have hLF64:LF<2^64:=HLF64.out;have hAn:=andNot_u64 (a:=it) (b:=LF) (by omega) (by omega)
    have hAn2:=andNot_u64 (a:=LF) (b:=it) (by omega) (by omega);have Hcf:=Lib.hid (hconf.out t t1 t2);have Hlf:=Lib.hid (hlf1.out t);rw [<- hit] at Hcf Hlf;obtain ⟨Z,hZ⟩:∃ Z,Z=anU it LF:=⟨_,rfl⟩;rw [<- hZ] at Hcf hAn;obtain ⟨N2,hN2⟩:∃ N2,N2=anU LF it:=⟨_,rfl⟩;rw [<- hN2] at Hlf hAn2;have HFt:=Lib.hid (show F (nth O u)=if stB s rs (vs++[(t:Int)]) p=true then cv s gi rs f (vs++[(t:Int)]) else [] by rw [HF.out,ht]);have Htf:=Lib.hid (take_flat (F:=F) huO);obtain ⟨z0,z1,z2⟩:=id hxw;obtain ⟨W,hW⟩:∃ W,wr.alloc (.cells #[.int .i64 t,.int .u64 it] 166)=W:=⟨_,rfl⟩;have hbW:Below wr.heap.size wr W:=(by rw [<- hW];exact (Below.refl _ _).alloc (Nat.le_refl _) _);have hsW:W.heap.size=wr.heap.size+1:=(by rw [<- hW];simp);have y0:W.cell? ⟨wr.heap.size,0,none⟩=some (.int .i64 t):=(by rw [<- hW];exact cell_of_row _ _ 0 _ _ (0,0) (heap_alloc_new wr _));have y1:W.cell? ⟨wr.heap.size,1,none⟩=some (.int .u64 it):=(by rw [<- hW];exact cell_of_row _ _ 1 _ _ (0,0) (heap_alloc_new wr _));have hxW:=hxw.below hxw.lt hbW;obtain ⟨x0,x1,x2⟩:=id hxW;have hoW:=ho.below hbW;have hgW:wr.grownBy W (some G):=grown_of_below hbW
    clear hcc ht hit hZ hN2 hLF64;have hN0:nth (vs++[(t:Int)]) p=(t:Int):=(by rw [nth_push Hl.out,if_neg (by omega),if_pos rfl]);cases hnc:noConf s (vs++[(t:Int)]) p
    ·have hZ0:((Z:Int) != 0)=true:=by
      have:=Hcf.out;rw [hnc] at this;simp only [beq_eq_false_iff_ne] at this
      simp;omega
     have HE:=Lib.hid (show (O.take (u+1)).flatMap F=(O.take u).flatMap F by rw [Htf.out,HFt.out,if_neg (by simp [stB,hnc]),List.append_nil]);clear Htf HFt
     go_wp2
     go_roundw
     case rel=>exact ⟨u+1,ys,by omega,by go_num,by rw [HE.out];exact hJ _ _ _ hj hgW,hm.trans (midx_below hbW),hoW,hys⟩
     case measure=>simp [intOf];omega
    ·have hZ0:((Z:Int) != 0)=false:=by
      have:=Hcf.out;rw [hnc] at this;simp only [beq_iff_eq] at this
      simp;omega
     obtain ⟨hold,hfr⟩:=hoW.cell (show p<n by have:=Hh.out.2.2;omega);obtain ⟨W2,hW2⟩:∃ W2,W.setCell ⟨G,p,none⟩ (.int .i64 t)=W2:=⟨_,rfl⟩;have hg2:W.grownBy W2 (some G):=(by rw [<- hW2];exact grown_set);have ho2:Ow W2 lo (some ⟨G,0,none⟩) n n (ys.set p t):=(by rw [<- hW2];exact Ow.put hoW p t);have hs2:W2.heap.size=W.heap.size:=(by rw [<- hW2];simp [World.setCell]);have hgw2:wr.grownBy W2 (some G):=grown_tr2 hgW hg2;have hx2:=hxW.midx (midx_grown (lo:=M) hg2) hMX hXG;have v0:=(hg2.cell_far ⟨wr.heap.size,0,none⟩ (cell_lt y0) (fun e=>by injection e with e;dsimp only at e;omega)).trans y0;have v1:=(hg2.cell_far ⟨wr.heap.size,1,none⟩ (cell_lt y1) (fun e=>by injection e with e;dsimp only at e;omega)).trans y1;have hj2:=hJ _ _ _ hj hgw2;have hm2:=hm.trans (midx_grown (lo:=M) hgw2);obtain ⟨r1,r2⟩:=HR.out;have r1:=hm2.cell r1 m3 m7;have r2:=r2.midx hm2 m4 m5
     have hput:∀ i,i<p+1->nth (ys.set p (t:Int)) i=nth (vs++[(t:Int)]) i:=fun i hi=>by
      rw [nth_push Hl.out]
      by_cases e:i=p
      ·subst e;rw [nth_set_same (by rw [ho.len];have:=Hh.out.2.2;omega),if_neg (by omega),if_pos rfl]
      ·rw [nth_set_ne (fun e'=>e e'.symm),if_pos (by omega)];exact hys i (by omega)
     have hvs1:∀ i,i<p+1->1<=nth (vs++[(t:Int)]) i/\nth (vs++[(t:Int)]) i<=(s:Int):=fun i hi=>by
      rw [nth_push Hl.out]
      by_cases e:i<p
      ·rw [if_pos e];exact Hvs.out i e
      ·rw [if_neg e,if_pos (by omega)];omega
     have hcells:=fun i hi=>at_ok (p:=p) Hr.out (i:=i) hi
     have hq:holdsQ (ys.set p (t:Int)) (rulesAt rs p)=rlOk rs (vs++[(t:Int)]) p:=by
      rw [<- holdsQ_is];exact holdsQ_congr (p:=p) (fun i hi=>hput i (by omega)) (fun i hi j hj=>((hcells i hi).2 j hj).2)
     have hRH:=rulesHold_any W0 B0 G OB RB n L p s A' cap' (rulesAt rs p) (ys.set p (t:Int)) W2 r1 r2 (hJ0 _ _ hj2) hB0 (by have:=Hh.out.2.2;omega) ho2.rd (HQL.out) (fun i hi=>(hcells i hi).1) (fun i hi j hj=>by
         have:=(hcells i hi).2 j hj;have:=Hh.out.2.2
         omega) (fun i hi j hj=>by
         have:=(hcells i hi).2 j hj;rw [pks_nth hj,hput _ (by omega)];have:=hvs1 _ (show (nth (rat (rulesAt rs p) i).xs j).toNat<p+1 by omega);have h4:=Hh.out.2.1
         simp at h4
         omega)
     rw [hq] at hRH;unfold sVal at hRH;obtain ⟨bb,hbb⟩:∃ bb,bb=rlOk rs (vs++[(t:Int)]) p:=⟨_,rfl⟩;rw [<- hbb] at hRH;have HRH:=Lib.hid hRH;have Hbb:=Lib.hid hbb;have HK:=Lib.hid (fun (w3:World) (hb3:Below W2.heap.size W2 w3)=>(⟨hx2.below hx2.lt hb3,(hb3.cell (p:=⟨wr.heap.size,1,none⟩) (cell_lt v1)).trans v1,ho2.below hb3,grown_tr2 hgw2 (grown_of_below hb3)⟩:SBox w3 X.heap.size G OB RB n/\w3.cell? ⟨wr.heap.size,1,none⟩=some (.int .u64 it)/\Ow w3 lo (some ⟨G,0,none⟩) n n (ys.set p (t:Int))/\wr.grownBy w3 (some G)));obtain ⟨f0,f1,f2⟩:=id hx2;have hput':=Lib.hid hput;have hvs1':=Lib.hid hvs1;have Hj:=Lib.hid hj;have Hm:=Lib.hid hm;have Hyl:=Lib.hid ho.len;have Hback:Hid (∀ zs:List Int,(∀ i,i<p+1->nth zs i=nth (vs++[(t:Int)]) i)->∀ i,i<p->nth zs i=nth vs i):=Lib.hid (fun zs h i hi=>by rw [h i (by omega),nth_push Hl.out,if_pos hi]);clear hbb hq hcells r1 r2 hj2 hm2 hx2 hgw2 ho2 hg2 v1 hRH hput hvs1 hj hxw hxW hoW hgW hm;cases bb
     ·have HE:=Lib.hid (show (O.take (u+1)).flatMap F=(O.take u).flatMap F by rw [Htf.out,HFt.out,if_neg (by simp [stB,<-Hbb.out]),List.append_nil]);clear Htf HFt
      go_wp2_with (go_at_call 167;refine HRH.out.mono ?_;rintro e w3 ⟨rfl,hb3⟩;obtain ⟨hx3,q1,ho3,hg3⟩:=HK.out w3 hb3)
      go_roundw
      case rel=>exact ⟨u+1,_,by omega,by go_num,by rw [HE.out];exact hJ _ _ _ Hj.out hg3,Hm.out.trans (midx_grown hg3),ho3,Hback.out _ hput'.out⟩
      case measure=>simp [intOf];omega
     ·have hst:stB s rs (vs++[(t:Int)]) p=true:=(by simp [stB,hnc,<-Hbb.out]);have HE:=Lib.hid (show (O.take (u+1)).flatMap F=(O.take u).flatMap F++cv s gi rs f (vs++[(t:Int)]) by rw [Htf.out,HFt.out,if_pos hst])
      have Hmem:=Lib.hid (show ∃ zs,T=(pre++(O.take u).flatMap F)++(cv s gi rs f (vs++[(t:Int)])++zs) from by
       obtain ⟨zs,e⟩:=Hin.out;refine ⟨(O.drop (u+1)).flatMap F++zs,?_⟩;have h1:O.flatMap F=(O.take (u+1)).flatMap F++(O.drop (u+1)).flatMap F:=(by rw [<- List.flatMap_append,List.take_append_drop]);rw [e,h1,HE.out]
       simp only [List.append_assoc])
      have Hnc1:=Lib.hid (show ∀ q,q<p+1->noConf s ((vs++[(t:Int)]).take (q+1)) q=true from fun q hq=>by
       by_cases e:q<p
       ·rw [List.take_append_of_le_length (by have:=Hl.out;omega)];exact Hnc.out q e
       ·obtain rfl:q=p:=by omega
        rw [List.take_of_length_le (by rw [List.length_append,Hl.out];simp)];exact hnc)
      have HI:=Lib.hid (fun (w3:World) (hb3:Below W2.heap.size W2 w3)=>by
       obtain ⟨hx3,q1,ho3,hg3⟩:=HK.out w3 hb3;have:=ih (p+1) (vs++[(t:Int)]) (ys.set p (t:Int)) (pre++(O.take u).flatMap F) w3 (by have:=Hp.out;omega) (by rw [List.length_append,Hl.out];rfl) (hJ _ _ _ Hj.out hg3) (by have:=hg3.size;omega) (HSR1.out.midx (Hm.out.trans (midx_grown hg3)) ⟨m2,m6⟩ ⟨m3,m7⟩ m4 m5) ho3 hput'.out hvs1'.out Hnc1.out Hmem.out;rw [Hlf.out] at this;unfold sVal at this
       exact this)
      clear Htf HFt ih hcb
      go_wp2_with (first
       |(go_at_call 167;refine HRH.out.mono ?_;rintro e w3 ⟨rfl,hb3⟩;obtain ⟨hx3,q1,ho3,hg3⟩:=HK.out w3 hb3;obtain ⟨g0,g1,g2⟩:=id hx3)
       |(go_at_call 125;refine (HI.out w3 hb3).mono ?_;rintro e w4 hpost;obtain ⟨bb,rfl,hT2,hF2⟩:∃ bb:Bool,e=.returned (.bool bb)/\(bb=true->J ((pre++(O.take u).flatMap F)++cv s gi rs f (vs++[(t:Int)])) w4/\MidX M G w3 w4/\∃ zs,Ow w4 lo (some ⟨G,0,none⟩) n n zs/\∀ i,i<(vs++[(t:Int)]).length->nth zs i=nth (vs++[(t:Int)]) i)/\(bb=false->Jx w4):=covSplit hpost))
      ·rename_i hbb
       obtain rfl:bb=false:=by simpa using hbb
       go_ret
       exact .inr ⟨rfl,hF2 rfl⟩
      ·rename_i hbb
       obtain rfl:bb=true:=by simpa using hbb
       obtain ⟨hj4,hm4,zs,ho4,hz4⟩:=hT2 rfl;rw [List.append_assoc,<-HE.out] at hj4;exact ⟨⟨u+1,zs,by have:=Hlt.out;omega,by go_num,hj4,(Hm.out.trans (midx_grown hg3)).trans hm4,ho4,Hback.out zs (fun i hi=>hz4 i (by rw [List.length_append,Hl.out];exact hi))⟩,by have:=Hlt.out;simp [intOf];omega⟩
   ·obtain rfl:u=l0:=by omega
    have HE:=Lib.hid (show (O.take u).flatMap F=O.flatMap F by rw [Hl0.out,List.take_length]);obtain ⟨z0,z1,z2⟩:=id hxw
    go_wp2
    go_ret
    exact .inl ⟨rfl,by rw [<- HE.out];exact hj,Hm0.out.trans hm,ys,ho,fun i hi=>hys i (by have:=Hl.out;omega)⟩
end Go.Proofs.YtkeoflnmbcdmfaaGreatDoor
