import Derived.Test.YtkeoflnmbcdmfaaGreatDoorMCt
import Derived.Test.YtkeoflnmbcdmfaaGreatDoorMSix
import Derived.Test.YtkeoflnmbcdmfaaGreatDoorMSe
import Derived.Test.YtkeoflnmbcdmfaaGreatDoorPushAll
namespace Go.Proofs.YtkeoflnmbcdmfaaGreatDoor
open Go.ChangeShapes Go.WideShapes Go.ChangeAt Go.RowKit
theorem andNot_small:∀ a:Nat,a<32->∀ b:Nat,b<32->bits .andNot .i64 (a:Int) (b:Int)=((a&&&(31-b):Nat):Int):=by decide +kernel
theorem andNot_test:∀ a:Nat,a<32->∀ b:Nat,b<32->∀ v:Nat,v<5->(a&&&(31-b)).testBit v=(a.testBit v&& !b.testBit v):=by decide +kernel
theorem all_test:∀ s∈[2,3,4],∀ v:Nat,v<5->(2^(s+1)-2).testBit v=(Nat.blt 0 v&&Nat.ble v s):=by decide +kernel
theorem valuesIn_any (M:Nat) (hM:M<32) (w:World):Calls Tryz.prog 163 #[.int .i64 M] w (RetSl w (bitsTo M 4)):=by
 go_enter Tryz.func163,Tryz.ntmps163
 go_wp2
 go_loopw [3,4] (fun v i wr=>∃ u:Nat,u<=4/\i=.int .i64 ((u:Int)+1)/\OwV wr w.heap.size v (bitsTo M u)/\Below w.heap.size w wr) (fun _ i _=>(5-intOf i).toNat)
 case atStart=>exact ⟨0,by omega,rfl,⟨_,_,rfl,Ow.nil_ _ _⟩,Below.refl _ _⟩
 case round=>
  obtain ⟨u,hu,rfl,⟨A',c',rfl,ho⟩,hb⟩:=hrel;have hmb:=bitsTo_length M u
  have hkb:(bitsTo M u).length<=1099511627776:=by omega
  by_cases hlt:u<4
  ·have hstep:bitsTo M (u+1)=bitsTo M u++(if M.testBit (u+1)=true then [(u:Int)+1] else []):=rfl;have hsh:=and_pow M (u+1) hM (by omega);have htn:((u:Int)+1).toNat=u+1:=(by omega);cases hh:M.testBit (u+1)
   ·rw [hh] at hstep hsh;have Hst:=Lib.hid (show bitsTo M (u+1)=bitsTo M u by rw [hstep];simp);clear hh hstep
    go_wp2
    go_roundw
    case rel=>exact ⟨u+1,by omega,by go_num,⟨A',c',by rw [Hst.out],by rw [Hst.out];exact ho⟩,hb⟩
    case measure=>simp [intOf];omega
   ·rw [hh] at hstep hsh;have Hst:=Lib.hid (show bitsTo M (u+1)=bitsTo M u++[(u:Int)+1] by rw [hstep];simp);clear hh hstep
    go_wp2_with (at_builtin;refine push_int rfl (.tmp 14) (.tmp 16) rfl w.heap.size A' _ c' (bitsTo M u) _ rfl rfl ho hkb hb.size ?_;intro A'' c'' w1 ho1 hg1)
    have ho2:OwV w1 w.heap.size (.slice A'' ((bitsTo M u).length+1) c'') (bitsTo M (u+1)):=by
     refine ⟨A'',c'',by rw [Hst.out,List.length_append];rfl,?_⟩;rw [Hst.out,List.length_append];exact ho1
    have hb2:=push_below hb ho (Nat.le_refl _) hb.size hg1;clear ho1 hg1
    go_roundw
    case rel=>exact ⟨u+1,by omega,by go_num,ho2,hb2⟩
    case measure=>simp [intOf];omega
  ·obtain rfl:u=4:=by omega
   go_wp2
   go_ret
   exact retSl_mk ho hb
theorem bitsTo_miss {K s:Nat} {has:Int->Bool} (hs:s<=4) (h:∀ v,v<4->K.testBit (v+1)=(decide (v<s)&& !has ((v:Int)+1))):bitsTo K 4=missTo has s:=by
 have h1:∀ m,m<=s->bitsTo K m=missTo has m:=by
  intro m
  induction m with
  |zero=>intro _;rfl
  |succ m ih=>
   intro hm;simp only [bitsTo,missTo];rw [ih (by omega),h m (by omega)];have:decide (m<s)=true:=(by simp;omega);rw [this]
   cases has ((m:Int)+1)<;>simp
 have h2:∀ d,s+d<=4->bitsTo K (s+d)=missTo has s:=by
  intro d
  induction d with
  |zero=>intro _;exact h1 s (Nat.le_refl _)
  |succ d ih=>
   intro hd
   show bitsTo K (s+d+1)=_
   simp only [bitsTo];rw [ih (by omega),h (s+d) (by omega)];have:decide (s+d<s)=false:=(by simp);rw [this];simp
 have:=h2 (4-s) (by omega);rwa [show s+(4-s)=4 by omega] at this
end Go.Proofs.YtkeoflnmbcdmfaaGreatDoor
namespace Go.Proofs.YtkeoflnmbcdmfaaGreatDoor
open Go.ChangeShapes Go.WideShapes Go.ChangeAt Go.RowKit
theorem results_cell_tmp {P:Program} {fn:Func} {p q:Tmp} {ty:TypeId} (h:fn.results= #[.cell p ty,.tmp q]) (tmps:Array Value) (w:World) (g:Nat) (t:TypeId) (cs:Array Value) (fr:Nat×Nat) (d:TypeDesc) (b:Value)
 (hp:tmps.getD p undef=.pointer (some ⟨g,0,none⟩)) (hq:tmps.getD q undef=b) (hg:w.heap[g]? =some (.cells cs t fr))
 (hu:P.underlying ty=some d) (hd:(match d with|.struct _|.array _ _=>true|_=>false)=true) (hi:(P.info? ty).map (·.size)=some cs.size):
 (results fn tmps).run P w=.ok (.tuple #[.agg cs,b]) w:=by
 have hp':tmps[p]?.getD undef=.pointer (some ⟨g,0,none⟩):=by simpa using hp
 have hq':tmps[q]?.getD undef=b:=by simpa using hq
 simp [results,h,hp',hq',asAddr,run_loadVar_row w g t ty cs fr d hg hu hd hi]
theorem MBox.lt {w:World} {g:Nat} {M:Nat->Nat} {s:Int} (h:MBox w g M s):g<w.heap.size:=(Array.getElem?_eq_some_iff.1 h).1
theorem MBox.row_other {w:World} {g g':Nat} {cs:Array Value} {M:Nat->Nat} {s:Int} (h:MBox w g M s) (hne:g≠g'):MBox (w.setRow g' cs) g M s:=by
 unfold MBox World.setRow;simp only [Array.getElem?_modify];rw [if_neg (fun e=>hne e.symm)];exact h
theorem lmask_z {xs:List Int} {s k:Nat} (h:nth xs k=0):lmask xs s (k+1)=lmask xs s k/\twice xs s (k+1)=twice xs s k:=by simp [lmask,twice,h]
theorem lmask_nz {xs:List Int} {s k v:Nat} (h:nth xs k=(v:Int)) (hv:v≠0):lmask xs s (k+1)=mput (mput (lmask xs s k) (k/s) v) (s+k%s) v/\twice xs s (k+1)=(twice xs s k||((lmask xs s k (k/s)).testBit v||(lmask xs s k (s+k%s)).testBit v)):=by
 have h0:nth xs k≠0:=by omega
 have e:(nth xs k).toNat=v:=by omega
 simp only [lmask,twice];rw [if_neg h0,if_neg h0,e];exact ⟨rfl,rfl⟩
theorem rc_lt:∀ s∈[2,3,4],∀ k,k<s*s->k/s<8/\s+k%s<8:=by decide +kernel
theorem lines_any (A:Option Addr) (c n B s:Nat) (xs:List Int) (w:World) (h:Rd w B A n xs) (hB:B<=w.heap.size) (hs:s∈[2,3,4]) (hn:n=s*s) (hok:Hid (okAll xs s n)):
 Calls Tryz.prog 179 #[.agg #[.slice A n c,.int .i64 s]] w fun e w'=>e=.returned (.tuple #[.agg (mcells (lmask xs s n) s),.bool (twice xs s n)])/\Below w.heap.size w w':=by
 have hs2:2<=s:=by simp at hs;omega
 have hs4:s<=4:=by simp at hs;omega
 have hn16:n<=16:=by simp at hs;rcases hs with rfl|rfl|rfl<;>omega
 have Hn:=Lib.hid hn;clear hn
 have hi9:∀ M:Nat->Nat,(Tryz.prog.info? 81).map (·.size)=some (mcells M s).size:=fun M=>by rw [mcells_size];kernel_rfl
 have Hi9:=Lib.hid hi9;clear hi9
 have hone:∀ M:Nat->Nat,(mcells M s).all (·.oneCell')=true:=fun M=>mone M s
 have Hone:=Lib.hid hone;clear hone
 go_enter Tryz.func179,Tryz.ntmps179
 go_wp2
 go_loopw [5,14] (fun t i wr=>∃ k:Nat,k<=n/\i=.int .i64 k/\t=.bool (twice xs s k)/\Hid (MBox wr (w.heap.size+1+1) (lmask xs s k) s)/\Hid (MBox wr (w.heap.size+1) (fun _=>0) 0)/\Below w.heap.size w wr) (fun _ i _=>n-(intOf i).toNat)
 case atStart=>
  refine ⟨0,Nat.zero_le _,rfl,rfl,Lib.hid ?_,Lib.hid ?_,(((Below.refl _ _).alloc (Nat.le_refl _) _).alloc (by simp) _).alloc (by simp;omega) _⟩
  ·have:=heap_alloc_new ((w.alloc (Obj.cells #[Value.slice A n c,Value.int IntKind.i64 ↑s] 75)).alloc (Obj.cells (mcells (fun _=>0) 0) 81)) (.cells (mcells (fun _=>0) s) 81);simp only [World.size_alloc] at this;exact this
  ·have:=heap_alloc_new (w.alloc (Obj.cells #[Value.slice A n c,Value.int IntKind.i64 ↑s] 75)) (.cells (mcells (fun _=>0) 0) 81);simp only [World.size_alloc] at this;exact (heap_alloc_old _ _ (by simp)).trans this
 case round=>
  obtain ⟨k,hk,rfl,rfl,hx,hy,hB0⟩:=hrel
  by_cases hlt:k<n
  ·obtain ⟨b,off,rfl,hbB,hck⟩:=(h.below (hB0.mono hB)).at_ hlt;obtain ⟨x0,x4⟩:=hok.out k hlt;obtain ⟨v,hv⟩:=Int.eq_ofNat_of_zero_le x0;have hv4:v<=4:=(by omega);obtain ⟨hr8,hc8⟩:=rc_lt s hs k (by have:=Hn.out;omega);have Hr:Hid ((k:Int)/(s:Int)=((k/s:Nat):Int)):=Lib.hid (by simp);have Hc:Hid ((s:Int)+(k:Int)%(s:Int)=((s+k%s:Nat):Int)):=Lib.hid (by simp);have Hm:=Lib.hid (lmask_lt (xs:=xs) (by omega:(s:Int)<=4) hok.out k hk)
   by_cases hz:v=0
   ·subst hz;obtain ⟨e1,e2⟩:=lmask_z (s:=s) hv;have E1:=Lib.hid e1;have E2:=Lib.hid e2;clear e1 e2
    go_wp2
    go_roundw
    case rel=>exact ⟨k+1,by omega,by go_num,by rw [E2.out],by rw [E1.out];exact hx,hy,hB0⟩
    case measure=>simp [intOf];omega
   ·obtain ⟨e1,e2⟩:=lmask_nz (s:=s) hv hz;have E1:=Lib.hid e1;have E2:=Lib.hid e2;clear e1 e2;have hz1:((v:Int)==0)=false:=(by simp;omega);cases ht:twice xs s k
    ·go_wp2_with (first|(refine wpList_load_row_w rfl 81 _ rfl (w.heap.size+1+1) rfl 81 (mcells (lmask xs s k) s) (0,0) _ hx.out Tryz.underlying81 rfl (Hi9.out _) ?_)|(go_at_call 121;refine (meets_any (lmask xs s k) s k (k/s) (s+k%s) v _ (by omega) (by omega) Hr.out Hc.out hr8 hc8 (by omega) hv4 Hm.out).mono ?_;rintro e w1 ⟨rfl,hb1⟩;have hx1:=Lib.hid (MBox.below hx.out hx.out.lt hb1);have hy1:=Lib.hid (MBox.below hy.out hy.out.lt hb1);have hB1:=step hB0 hb1;clear hb1)|(refine wpList_load_row rfl 81 _ rfl (w.heap.size+1+1) rfl 81 (mcells (lmask xs s k) s) (0,0) _ hx1.out Tryz.underlying81 rfl (Hi9.out _) ?_)|(go_at_call 122;refine (with_any (lmask xs s k) s k (k/s) (s+k%s) v _ (by omega) (by omega) Hr.out Hc.out hr8 hc8 (by omega) hv4 Hm.out).mono ?_;rintro e w2 ⟨rfl,hb2⟩;have hx2:=Lib.hid (MBox.below hx1.out hx1.out.lt hb2);have hy2:=Lib.hid (MBox.below hy1.out hy1.out.lt hb2);have hB2:=step hB1 hb2;clear hb2)|(refine wpList_store_row rfl 81 _ _ rfl (w.heap.size+1+1) (mcells (mput (mput (lmask xs s k) (k/s) v) (s+k%s) v) s) rfl rfl 81 (mcells (lmask xs s k) s) hx2.out (Hi9.out _) rfl (Hone.out _) ?_))
     have hxe:=Lib.hid (MBox.stored (M':=mput (mput (lmask xs s k) (k/s) v) (s+k%s) v) (s':=s) hx2.out);have hye:=Lib.hid (MBox.row_other (cs:=mcells (mput (mput (lmask xs s k) (k/s) v) (s+k%s) v) s) hy2.out (show w.heap.size+1≠w.heap.size+1+1 by omega));have hBe:=setRow_below (g:=w.heap.size+1+1) (cs:=mcells (mput (mput (lmask xs s k) (k/s) v) (s+k%s) v) s) hB2 (by omega);rw [ht] at E2
     go_roundw
     case rel=>exact ⟨k+1,by omega,by go_num,by rw [E2.out];rfl,by rw [E1.out];exact hxe,hye,hBe⟩
     case measure=>simp [intOf];omega
    ·go_wp2_with (first|(refine wpList_load_row rfl 81 _ rfl (w.heap.size+1+1) rfl 81 (mcells (lmask xs s k) s) (0,0) _ hx.out Tryz.underlying81 rfl (Hi9.out _) ?_)|(go_at_call 122;refine (with_any (lmask xs s k) s k (k/s) (s+k%s) v _ (by omega) (by omega) Hr.out Hc.out hr8 hc8 (by omega) hv4 Hm.out).mono ?_;rintro e w2 ⟨rfl,hb2⟩;have hx2:=Lib.hid (MBox.below hx.out hx.out.lt hb2);have hy2:=Lib.hid (MBox.below hy.out hy.out.lt hb2);have hB2:=step hB0 hb2;clear hb2)|(refine wpList_store_row rfl 81 _ _ rfl (w.heap.size+1+1) (mcells (mput (mput (lmask xs s k) (k/s) v) (s+k%s) v) s) rfl rfl 81 (mcells (lmask xs s k) s) hx2.out (Hi9.out _) rfl (Hone.out _) ?_))
     have hxe:=Lib.hid (MBox.stored (M':=mput (mput (lmask xs s k) (k/s) v) (s+k%s) v) (s':=s) hx2.out);have hye:=Lib.hid (MBox.row_other (cs:=mcells (mput (mput (lmask xs s k) (k/s) v) (s+k%s) v) s) hy2.out (show w.heap.size+1≠w.heap.size+1+1 by omega));have hBe:=setRow_below (g:=w.heap.size+1+1) (cs:=mcells (mput (mput (lmask xs s k) (k/s) v) (s+k%s) v) s) hB2 (by omega);rw [ht] at E2
     go_roundw
     case rel=>exact ⟨k+1,by omega,by go_num,by rw [E2.out];rfl,by rw [E1.out];exact hxe,hye,hBe⟩
     case measure=>simp [intOf];omega
  ·obtain rfl:k=n:=by omega
   have hxf:=Lib.hid (MBox.stored (M':=lmask xs s k) (s':=s) hy.out);have hBe:=setRow_below (g:=w.heap.size+1) (cs:=mcells (lmask xs s k) s) hB0 (by omega)
   go_wp2_with (first|(refine wpList_load_row rfl 81 _ rfl (w.heap.size+1+1) rfl 81 (mcells (lmask xs s k) s) (0,0) _ hx.out Tryz.underlying81 rfl (Hi9.out _) ?_)|(refine wpList_store_row rfl 81 _ _ rfl (w.heap.size+1) (mcells (lmask xs s k) s) rfl rfl 81 (mcells (fun _=>0) 0) hy.out (Hi9.out _) rfl (Hone.out _) ?_))
   refine bodyPost_ret (v:=.tuple #[.agg (mcells (lmask xs s k) s),.bool (twice xs s k)]) (results_cell_tmp (by rfl) _ _ (w.heap.size+1) 81 _ (0,0) _ _ rfl rfl hxf.out Tryz.underlying81 rfl (Hi9.out _)) rfl ⟨rfl,hBe⟩
end Go.Proofs.YtkeoflnmbcdmfaaGreatDoor
namespace Go.Proofs.YtkeoflnmbcdmfaaGreatDoor
open Go.ChangeShapes Go.WideShapes Go.ChangeAt Go.RowKit
def ccells (C:Nat->Nat) (s:Int):Array Value:= #[.int .i64 (C 0),.int .i64 (C 1),.int .i64 (C 2),.int .i64 (C 3),.int .i64 (C 4),.int .i64 (C 5),.int .i64 (C 6),.int .i64 (C 7),.int .i64 (C 8),.int .i64 (C 9),.int .i64 (C 10),.int .i64 (C 11),.int .i64 (C 12),.int .i64 (C 13),.int .i64 (C 14),.int .i64 (C 15),.int .i64 (C 16),.int .i64 (C 17),.int .i64 (C 18),.int .i64 (C 19),.int .i64 (C 20),.int .i64 (C 21),.int .i64 (C 22),.int .i64 (C 23),.int .i64 (C 24),.int .i64 (C 25),.int .i64 (C 26),.int .i64 (C 27),.int .i64 (C 28),.int .i64 (C 29),.int .i64 (C 30),.int .i64 (C 31),.int .i64 (C 32),.int .i64 (C 33),.int .i64 (C 34),.int .i64 (C 35),.int .i64 (C 36),.int .i64 (C 37),.int .i64 (C 38),.int .i64 (C 39),.int .i64 s]
theorem ccells_size (C:Nat->Nat) (s:Int):(ccells C s).size=41:=rfl
theorem ccell_at (C:Nat->Nat) (s:Int):∀ {l:Nat},l<40->(ccells C s)[l]? =some (.int .i64 (C l))
 |0,_=>rfl
 |1,_=>rfl
 |2,_=>rfl
 |3,_=>rfl
 |4,_=>rfl
 |5,_=>rfl
 |6,_=>rfl
 |7,_=>rfl
 |8,_=>rfl
 |9,_=>rfl
 |10,_=>rfl
 |11,_=>rfl
 |12,_=>rfl
 |13,_=>rfl
 |14,_=>rfl
 |15,_=>rfl
 |16,_=>rfl
 |17,_=>rfl
 |18,_=>rfl
 |19,_=>rfl
 |20,_=>rfl
 |21,_=>rfl
 |22,_=>rfl
 |23,_=>rfl
 |24,_=>rfl
 |25,_=>rfl
 |26,_=>rfl
 |27,_=>rfl
 |28,_=>rfl
 |29,_=>rfl
 |30,_=>rfl
 |31,_=>rfl
 |32,_=>rfl
 |33,_=>rfl
 |34,_=>rfl
 |35,_=>rfl
 |36,_=>rfl
 |37,_=>rfl
 |38,_=>rfl
 |39,_=>rfl
 |n+40,h=>absurd h (by omega)
theorem ccells_set (C:Nat->Nat) (s:Int):∀ {l:Nat},l<40->(ccells C s).setIfInBounds l (.int .i64 ((C l+1:Nat):Int))=ccells (bump C l) s
 |0,_=>rfl
 |1,_=>rfl
 |2,_=>rfl
 |3,_=>rfl
 |4,_=>rfl
 |5,_=>rfl
 |6,_=>rfl
 |7,_=>rfl
 |8,_=>rfl
 |9,_=>rfl
 |10,_=>rfl
 |11,_=>rfl
 |12,_=>rfl
 |13,_=>rfl
 |14,_=>rfl
 |15,_=>rfl
 |16,_=>rfl
 |17,_=>rfl
 |18,_=>rfl
 |19,_=>rfl
 |20,_=>rfl
 |21,_=>rfl
 |22,_=>rfl
 |23,_=>rfl
 |24,_=>rfl
 |25,_=>rfl
 |26,_=>rfl
 |27,_=>rfl
 |28,_=>rfl
 |29,_=>rfl
 |30,_=>rfl
 |31,_=>rfl
 |32,_=>rfl
 |33,_=>rfl
 |34,_=>rfl
 |35,_=>rfl
 |36,_=>rfl
 |37,_=>rfl
 |38,_=>rfl
 |39,_=>rfl
 |n+40,h=>absurd h (by omega)
theorem cone (C:Nat->Nat) (s:Int):(ccells C s).all (·.oneCell')=true:=by simp [ccells,Value.oneCell']
def CBox (w:World) (g:Nat) (C:Nat->Nat) (s:Int):Prop:=w.heap[g]? =some (.cells (ccells C s) 191)
section
variable {w w' : World} {g : Nat} {C : Nat → Nat} {s : Int}
theorem CBox.lt (h:CBox w g C s):g<w.heap.size:=(Array.getElem?_eq_some_iff.1 h).1
theorem CBox.cell (h:CBox w g C s) {l:Nat} (hl:l<40):w.cell? ⟨g,l,none⟩=some (.int .i64 (C l)):=
 (cell_of_row _ _ l _ _ (0,0) h).trans (ccell_at C s hl)
theorem CBox.size_ (h:CBox w g C s):w.cell? ⟨g,40,none⟩=some (.int .i64 s):=
 (cell_of_row _ _ 40 _ _ (0,0) h).trans rfl
theorem CBox.frozen (h:CBox w g C s) (l:Nat):w.frozen? ⟨g,l,none⟩=false:=by
 unfold World.frozen?;rw [show w.heap[g]? =_ from h]
 simp
theorem CBox.set (h:CBox w g C s) {l:Nat} (hl:l<40):CBox (w.setCell ⟨g,l,none⟩ (.int .i64 ((C l:Int)+1))) g (bump C l) s:=by
 show CBox (w.setCell ⟨g,l,none⟩ (.int .i64 ((C l+1:Nat):Int))) g (bump C l) s
 unfold CBox;rw [heap_setCell_same w g l _ _ _ h,<-ccells_set C s hl]
theorem CBox.below {B:Nat} (h:CBox w g C s) (hg:g<B) (hb:Below B w w'):CBox w' g C s:=(hb.block g hg).trans h
theorem CBox.other {g' k:Nat} {v:Value} (h:CBox w g C s) (hne:g≠g'):CBox (w.setCell ⟨g',k,none⟩ v) g C s:=(heap_setCell_other w _ g v hne).trans h
theorem CBox.stored {C':Nat->Nat} {s':Int} (h:CBox w g C s):CBox (w.setRow g (ccells C' s')) g C' s':=setRow_heap w g _ _ _ _ h
end
theorem cinfo (C:Nat->Nat) (s:Int):(Tryz.prog.info? 191).map (·.size)=some (ccells C s).size:=by rw [ccells_size];kernel_rfl
def czero (s:Int):Array Value:= #[.int .i64 0,.int .i64 0,.int .i64 0,.int .i64 0,.int .i64 0,.int .i64 0,.int .i64 0,.int .i64 0,.int .i64 0,.int .i64 0,.int .i64 0,.int .i64 0,.int .i64 0,.int .i64 0,.int .i64 0,.int .i64 0,.int .i64 0,.int .i64 0,.int .i64 0,.int .i64 0,.int .i64 0,.int .i64 0,.int .i64 0,.int .i64 0,.int .i64 0,.int .i64 0,.int .i64 0,.int .i64 0,.int .i64 0,.int .i64 0,.int .i64 0,.int .i64 0,.int .i64 0,.int .i64 0,.int .i64 0,.int .i64 0,.int .i64 0,.int .i64 0,.int .i64 0,.int .i64 0,.int .i64 s]
theorem czero_is (s:Int):czero s=ccells (fun _=>0) s:=by
 unfold czero ccells
 simp
def cstart (A:Option Addr) (n c:Nat) (s:Int) (w:World):World:=((w.alloc (.cells #[.slice A n c,.int .i64 s] 75)).alloc (.cells (czero 0) 191)).alloc (.cells (czero 0) 191)
theorem cstart_facts (A:Option Addr) (n c:Nat) (s:Int) (w:World):CBox (cstart A n c s w) (w.heap.size+1+1) (fun _=>0) 0/\CBox (cstart A n c s w) (w.heap.size+1) (fun _=>0) 0/\(cstart A n c s w).cell? ⟨w.heap.size,0,none⟩=some (.slice A n c)/\(cstart A n c s w).cell? ⟨w.heap.size,1,none⟩=some (.int .i64 s)/\Below w.heap.size w (cstart A n c s w):=by
 unfold cstart;rw [czero_is];refine ⟨?_,?_,?_,?_,(((Below.refl _ _).alloc (Nat.le_refl _) _).alloc (by simp) _).alloc (by simp;omega) _⟩
 ·have:=heap_alloc_new ((w.alloc (Obj.cells #[Value.slice A n c,Value.int IntKind.i64 s] 75)).alloc (Obj.cells (ccells (fun _=>0) 0) 191)) (.cells (ccells (fun _=>0) 0) 191);simp only [World.size_alloc] at this;exact this
 ·have:=heap_alloc_new (w.alloc (Obj.cells #[Value.slice A n c,Value.int IntKind.i64 s] 75)) (.cells (ccells (fun _=>0) 0) 191);simp only [World.size_alloc] at this;exact (heap_alloc_old _ _ (by simp)).trans this
 ·refine (cell_of_row _ _ 0 #[.slice A n c,.int .i64 s] 75 (0,0) ?_).trans rfl;rw [heap_alloc_old _ _ (by simp;omega),heap_alloc_old _ _ (by simp)];exact heap_alloc_new w _
 ·refine (cell_of_row _ _ 1 #[.slice A n c,.int .i64 s] 75 (0,0) ?_).trans rfl;rw [heap_alloc_old _ _ (by simp;omega),heap_alloc_old _ _ (by simp)];exact heap_alloc_new w _
theorem cell_other {w:World} {g g' k j:Nat} {v:Value} (h:g≠g'):(w.setCell ⟨g',k,none⟩ v).cell? ⟨g,j,none⟩=w.cell? ⟨g,j,none⟩:=by
 unfold World.cell?;rw [heap_setCell_other w ⟨g',k,none⟩ g v h]
theorem setRow_cell {w:World} {g:Nat} {cs:Array Value} {p:Addr} (h:p.block≠g):(w.setRow g cs).cell? p=w.cell? p:=cell_setRow_other w g cs p h
theorem CBox.row_other {w:World} {g g':Nat} {cs:Array Value} {C:Nat->Nat} {s:Int} (h:CBox w g C s) (hne:g≠g'):CBox (w.setRow g' cs) g C s:=by
 unfold CBox World.setRow;simp only [Array.getElem?_modify];rw [if_neg (fun e=>hne e.symm)];exact h
theorem counted_any (A:Option Addr) (c n B s:Nat) (xs:List Int) (w:World) (h:Rd w B A n xs) (hB:B<=w.heap.size) (hs:s∈[2,3,4]) (hn:n=s*s) (hok:Hid (okAll xs s n)):
 Calls Tryz.prog 191 #[.agg #[.slice A n c,.int .i64 s]] w fun e w'=>e=.returned (.agg (ccells (cnt xs s n) s))/\Below w.heap.size w w':=by
 have hs2:2<=s:=by simp at hs;omega
 have hs4:s<=4:=by simp at hs;omega
 have hn16:n<=16:=by simp at hs;rcases hs with rfl|rfl|rfl<;>omega
 have Hn:=Lib.hid hn;clear hn;have Hi:=Lib.hid (fun C=>cinfo C s);have Hone:=Lib.hid (fun C=>cone C s);obtain ⟨hx0,hy0,hc00,hc01,hb0⟩:=cstart_facts A n c s w;have hz2:(((w.alloc (.cells #[.slice A n c,.int .i64 (s:Int)] 75)).alloc (.cells #[.int .i64 0,.int .i64 0,.int .i64 0,.int .i64 0,.int .i64 0,.int .i64 0,.int .i64 0,.int .i64 0,.int .i64 0,.int .i64 0,.int .i64 0,.int .i64 0,.int .i64 0,.int .i64 0,.int .i64 0,.int .i64 0,.int .i64 0,.int .i64 0,.int .i64 0,.int .i64 0,.int .i64 0,.int .i64 0,.int .i64 0,.int .i64 0,.int .i64 0,.int .i64 0,.int .i64 0,.int .i64 0,.int .i64 0,.int .i64 0,.int .i64 0,.int .i64 0,.int .i64 0,.int .i64 0,.int .i64 0,.int .i64 0,.int .i64 0,.int .i64 0,.int .i64 0,.int .i64 0,.int .i64 0] 191)).alloc (.cells #[.int .i64 0,.int .i64 0,.int .i64 0,.int .i64 0,.int .i64 0,.int .i64 0,.int .i64 0,.int .i64 0,.int .i64 0,.int .i64 0,.int .i64 0,.int .i64 0,.int .i64 0,.int .i64 0,.int .i64 0,.int .i64 0,.int .i64 0,.int .i64 0,.int .i64 0,.int .i64 0,.int .i64 0,.int .i64 0,.int .i64 0,.int .i64 0,.int .i64 0,.int .i64 0,.int .i64 0,.int .i64 0,.int .i64 0,.int .i64 0,.int .i64 0,.int .i64 0,.int .i64 0,.int .i64 0,.int .i64 0,.int .i64 0,.int .i64 0,.int .i64 0,.int .i64 0,.int .i64 0,.int .i64 0] 191)).heap[w.heap.size+1+1]? =some (.cells (ccells (fun _=>0) 0) 191 (0,0)):=hx0
 have Hz2:=Lib.hid hz2;clear hz2
 have key:∀ w0,(cstart A n c s w).setRow (w.heap.size+1+1) (ccells (fun _=>0) s)=w0->CBox w0 (w.heap.size+1+1) (fun _=>0) s/\CBox w0 (w.heap.size+1) (fun _=>0) 0/\w0.cell? ⟨w.heap.size,0,none⟩=some (.slice A n c)/\w0.cell? ⟨w.heap.size,1,none⟩=some (.int .i64 s)/\Below w.heap.size w w0:=by
  rintro w0 rfl;exact ⟨hx0.stored,hy0.row_other (by omega),(setRow_cell (by simp;omega)).trans hc00,(setRow_cell (by simp;omega)).trans hc01,setRow_below hb0 (by omega)⟩
 have Key:=Lib.hid key;clear key hx0 hy0 hc00 hc01 hb0
 go_enter Tryz.func191,Tryz.ntmps191
 go_wp2_with (refine wpList_store_row rfl 191 _ _ rfl (w.heap.size+1+1) (ccells (fun _=>0) s) rfl rfl 191 (ccells (fun _=>0) 0) Hz2.out (Hi.out _) rfl (Hone.out _) ?_;generalize Value.agg #[.int .i64 0,.int .i64 0,.int .i64 0,.int .i64 0,.int .i64 0,.int .i64 0,.int .i64 0,.int .i64 0,.int .i64 0,.int .i64 0,.int .i64 0,.int .i64 0,.int .i64 0,.int .i64 0,.int .i64 0,.int .i64 0,.int .i64 0,.int .i64 0,.int .i64 0,.int .i64 0,.int .i64 0,.int .i64 0,.int .i64 0,.int .i64 0,.int .i64 0,.int .i64 0,.int .i64 0,.int .i64 0,.int .i64 0,.int .i64 0,.int .i64 0,.int .i64 0,.int .i64 0,.int .i64 0,.int .i64 0,.int .i64 0,.int .i64 0,.int .i64 0,.int .i64 0,.int .i64 0,.int .i64 (s:Int)]=V;generalize hw0:World.setRow _ _ _=w0;obtain ⟨hx0,hy0,hc00,hc01,hb0⟩:=Key.out _ hw0;clear hw0)
 clear Hz2 Key
 go_loopw [14] (fun i wr=>∃ k:Nat,k<=n/\i=.int .i64 k/\Hid (CBox wr (w.heap.size+1+1) (cnt xs s k) s)/\Hid (CBox wr (w.heap.size+1) (fun _=>0) 0)/\wr.cell? ⟨w.heap.size,1,none⟩=some (.int .i64 s)/\Below w.heap.size w wr) (fun i _=>n-(intOf i).toNat)
 case atStart=>exact ⟨0,Nat.zero_le _,rfl,Lib.hid hx0,Lib.hid hy0,hc01,hb0⟩
 case round=>
  obtain ⟨k,hk,rfl,hx,hy,hc1,hB0⟩:=hrel
  by_cases hlt:k<n
  ·obtain ⟨b,off,rfl,hbB,hck⟩:=(h.below (hB0.mono hB)).at_ hlt;obtain ⟨x0,x4⟩:=hok.out k hlt;obtain ⟨v,hv⟩:=Int.eq_ofNat_of_zero_le x0;rw [hv] at hck;have hv4:v<=4:=(by omega);obtain ⟨hr8,hc8⟩:=rc_lt s hs k (by have:=Hn.out;omega);have Hr:Hid ((k:Int)/(s:Int)=((k/s:Nat):Int)):=Lib.hid (by simp);have Hc:Hid ((s:Int)+(k:Int)%(s:Int)=((s+k%s:Nat):Int)):=Lib.hid (by simp);obtain ⟨r,hr⟩:∃ r,r=k/s:=⟨_,rfl⟩;obtain ⟨q,hq⟩:∃ q,q=s+k%s:=⟨_,rfl⟩;have hstep:=Lib.hid (show cnt xs s (k+1)=bump (bump (cnt xs s k) (r*5+v)) (q*5+v) by simp only [cnt,hv,hr,hq,Int.toNat_natCast])
   rw [<- hr] at Hr hr8;rw [<- hq] at Hc hc8;have hl1:=cnt_le xs s k (r*5+v)
   have hl2:bump (cnt xs s k) (r*5+v) (q*5+v)<=2*k+1:=by
    have:=bump_le (cnt xs s k) (r*5+v) (q*5+v);have:=cnt_le xs s k (q*5+v);omega
   clear hr hq
   go_wp2_with (go_at_call 160;refine (linesThrough_rc s k r q _ (by omega) (by omega) (by omega) Hr.out Hc.out).mono ?_;rintro e w1 ⟨rfl,hb1⟩)
   have hx1:=Lib.hid (CBox.below hx.out hx.out.lt hb1);have hy1:=Lib.hid (CBox.below hy.out hy.out.lt hb1);have hB1:=step hB0 hb1;have hk1:=hx1.out.cell (l:=r*5+v) (by omega);have hf1:=hx1.out.frozen (r*5+v);have hr8':(r:Int)<8:=(by omega);have hq8':(q:Int)<8:=(by omega);have hv5':(v:Int)<5:=(by omega);have hc11:w1.cell? ⟨w.heap.size,1,none⟩=some (.int .i64 s):=(hb1.cell (p:=⟨w.heap.size,1,none⟩) (by have:=hx.out.lt;show w.heap.size<_;omega)).trans hc1
   go_region
   go_wp2
   obtain ⟨w2,hw2⟩:∃ w2,w2=(w1.setCell ⟨w.heap.size+1+1,r*5+v,none⟩ (.int .i64 ((cnt xs s k (r*5+v):Int)+1))).drew:=⟨_,rfl⟩;rw [<- hw2];have hx2:CBox w2 (w.heap.size+1+1) (bump (cnt xs s k) (r*5+v)) s:=(by rw [hw2];exact hx1.out.set (by omega));have hy2:CBox w2 (w.heap.size+1) (fun _=>0) 0:=(by rw [hw2];exact hy1.out.other (by omega));have hB2:Below w.heap.size w w2:=(by rw [hw2];exact below_drewN (hB1.setCell (by simp;omega) _) 1);have hsz2:w.heap.size<w2.heap.size:=(by have:=hx2.lt;omega);have hc2:w2.cell? ⟨w.heap.size,1,none⟩=some (.int .i64 s):=(by rw [hw2];exact (cell_other (by omega)).trans hc11)
   clear hw2 hk1 hf1;have hk2:=hx2.cell (l:=q*5+v) (by omega);have hf2:=hx2.frozen (q*5+v);have hx3:=Lib.hid (hx2.set (l:=q*5+v) (by omega));have hy3:=Lib.hid (hy2.other (k:=q*5+v) (v:=(.int .i64 ((bump (cnt xs s k) (r*5+v) (q*5+v):Int)+1))) (show w.heap.size+1≠w.heap.size+1+1 by omega));have hB3:=below_drewN (Below.setCell (p:=(⟨w.heap.size+1+1,q*5+v,none⟩:Addr)) hB2 (by simp;omega) (.int .i64 ((bump (cnt xs s k) (r*5+v) (q*5+v):Int)+1))) 1;have hc3:(w2.setCell ⟨w.heap.size+1+1,q*5+v,none⟩ (.int .i64 ((bump (cnt xs s k) (r*5+v) (q*5+v):Int)+1))).cell? ⟨w.heap.size,1,none⟩=some (.int .i64 s):=(cell_other (by omega)).trans hc2
   go_region
   go_wp2
   go_roundw
   case rel=>exact ⟨k+1,by omega,by go_num,by rw [hstep.out];exact hx3,hy3,hc3,hB3⟩
   case measure=>simp [intOf];omega
  ·obtain rfl:k=n:=by omega
   have hxf:=Lib.hid (CBox.stored (C':=cnt xs s k) (s':=s) hy.out);have hBe:=setRow_below (g:=w.heap.size+1) (cs:=ccells (cnt xs s k) s) hB0 (by omega)
   go_wp2_with (first|(refine wpList_load_row rfl 191 _ rfl (w.heap.size+1+1) rfl 191 (ccells (cnt xs s k) s) (0,0) _ hx.out Tryz.underlying191 rfl (Hi.out _) ?_)|(refine wpList_store_row rfl 191 _ _ rfl (w.heap.size+1) (ccells (cnt xs s k) s) rfl rfl 191 (ccells (fun _=>0) 0) hy.out (Hi.out _) rfl (Hone.out _) ?_))
   refine bodyPost_ret (v:=.agg (ccells (cnt xs s k) s)) (results_cell_row (by rfl) _ _ (w.heap.size+1) 191 _ (0,0) _ rfl hxf.out Tryz.underlying191 rfl (Hi.out _)) rfl ⟨rfl,hBe⟩
end Go.Proofs.YtkeoflnmbcdmfaaGreatDoor
namespace Go.Proofs.YtkeoflnmbcdmfaaGreatDoor
open Go.ChangeShapes Go.WideShapes Go.ChangeAt Go.RowKit
theorem free_any (C:Nat->Nat) (s cell r q:Nat) (w:World) (h2:2<=s) (h4:s<=4) (hr:Hid ((cell:Int)/(s:Int)=(r:Int))) (hq:Hid ((s:Int)+(cell:Int)%(s:Int)=(q:Int))) (r8:r<8) (q8:q<8) (c2:cell<16) (hC:∀ j,C j<=64):
 Calls Tryz.prog 192 #[.agg (ccells C s),.int .i64 cell] w fun e w'=>e=.returned (.int .i64 (freeTo C r q s:Int))/\Below w.heap.size w w':=by
 have hx0:CBox (w.alloc (.cells (ccells C s) 191)) w.heap.size C s:=heap_alloc_new w _;have hb0:Below w.heap.size w (w.alloc (.cells (ccells C s) 191)):=(Below.refl _ _).alloc (Nat.le_refl _) _;have hs40:=hx0.size_;have Hx0:=Lib.hid hx0;clear hx0
 go_enter Tryz.func192,Tryz.ntmps192
 go_wp2_with (go_at_call 160;refine (linesThrough_rc s cell r q _ (by omega) (by omega) c2 hr.out hq.out).mono ?_;rintro e w1 ⟨rfl,hb1⟩)
 have hx1:=Lib.hid (CBox.below Hx0.out Hx0.out.lt hb1);have hB1:=step hb0 hb1;clear hb1 hs40
 go_loopw [7,8] (fun m i wr=>∃ v:Nat,v<=s/\i=.int .i64 ((v:Int)+1)/\m=.int .i64 (freeTo C r q v:Int)/\Hid (CBox wr w.heap.size C s)/\Below w.heap.size w wr) (fun _ i _=>(s+1-intOf i).toNat)
 case atStart=>exact ⟨0,by omega,rfl,rfl,hx1,hB1⟩
 case round=>
  obtain ⟨v,hv,rfl,rfl,hx,hb⟩:=hrel;have hk40:=hx.out.size_
  by_cases hlt:v<s
  ·have hk1:=hx.out.cell (l:=r*5+(v+1)) (by omega);have hk2:=hx.out.cell (l:=q*5+(v+1)) (by omega);have e1:((v:Int)+1).toNat=v+1:=(by omega);have e2:IntKind.i64.wrap ((v:Int)+1)=(v:Int)+1:=IntWalk.i64_in _ (by omega);have e3:(0:Int)<=(v:Int)+1:=(by omega);have e4:(v:Int)+1<5:=(by omega);have r8':(r:Int)<8:=(by omega);have q8':(q:Int)<8:=(by omega);have hc1:=hC (r*5+(v+1));have hc2:=hC (q*5+(v+1));have e5:IntKind.i64.wrap ((C (r*5+(v+1)):Int)+(C (q*5+(v+1)):Int))=(C (r*5+(v+1)):Int)+(C (q*5+(v+1)):Int):=IntWalk.i64_in _ (by omega)
   have hlt32:=freeTo_lt C r q v (by omega);have hor:=or_int (freeTo C r q v) (v+1) hlt32 (by omega)
   have hstep:freeTo C r q (v+1)=if C (r*5+(v+1))+C (q*5+(v+1))=0 then freeTo C r q v|||2^(v+1) else freeTo C r q v:=rfl
   by_cases ho:C (r*5+(v+1))+C (q*5+(v+1))=0
   ·have ht:((C (r*5+(v+1)):Int)+(C (q*5+(v+1)):Int)==0)=true:=(by rw [beq_iff_eq];omega);have Hst:=Lib.hid (show freeTo C r q (v+1)=freeTo C r q v|||2^(v+1) by rw [hstep,if_pos ho]);clear hstep ho hc1 hc2
    go_wp2
    go_quiet (fail)
    go_wp2
    go_roundw
    case rel=>exact ⟨v+1,by omega,by go_num,by rw [Hst.out],Lib.hid (CBox.below hx.out hx.out.lt (below_drewN (Below.refl _ _) _)),below_drewN hb _⟩
    case measure=>simp [intOf];omega
   ·have ht:((C (r*5+(v+1)):Int)+(C (q*5+(v+1)):Int)==0)=false:=(by rw [beq_eq_false_iff_ne];omega);have Hst:=Lib.hid (show freeTo C r q (v+1)=freeTo C r q v by rw [hstep,if_neg ho]);clear hstep ho hc1 hc2
    go_wp2
    go_quiet (fail)
    go_wp2
    go_roundw
    case rel=>exact ⟨v+1,by omega,by go_num,by rw [Hst.out],Lib.hid (CBox.below hx.out hx.out.lt (below_drewN (Below.refl _ _) _)),below_drewN hb _⟩
    case measure=>simp [intOf];omega
  ·obtain rfl:v=s:=by omega
   go_wp2
   go_ret
   exact ⟨rfl,hb⟩
theorem cz_key (A:Option Addr) (n c:Nat) (s:Int) (C:Nat->Nat) (w w1:World) (hb1:Below (w.alloc (.cells #[.slice A n c,.int .i64 s] 75)).heap.size (w.alloc (.cells #[.slice A n c,.int .i64 s] 75)) w1) (w2:World)
 (h2:(w1.alloc (.cells (czero 0) 191)).setRow w1.heap.size (ccells C s)=w2):CBox w2 w1.heap.size C s/\w2.cell? ⟨w.heap.size,0,none⟩=some (.slice A n c)/\Below w.heap.size w w2/\w.heap.size<w1.heap.size/\w1.heap.size<w2.heap.size:=by
 subst h2
 have hlt:w.heap.size<w1.heap.size:=by have:=hb1.size;rw [World.size_alloc] at this;omega
 have hz:CBox (w1.alloc (.cells (czero 0) 191)) w1.heap.size (fun _=>0) 0:=by rw [czero_is];exact heap_alloc_new w1 _
 have hB1:=step ((Below.refl w.heap.size w).alloc (Nat.le_refl _) _) hb1;refine ⟨hz.stored,?_,setRow_below (hB1.alloc hB1.size _) hB1.size,hlt,by simp⟩;refine (setRow_cell (by show w.heap.size≠w1.heap.size;omega)).trans ?_;have hc:=box_cell hb1 0;refine ((((Below.refl w1.heap.size w1).alloc (Nat.le_refl _) (.cells (czero 0) 191)).cell (p:=⟨w.heap.size,0,none⟩) hlt).trans hc)
theorem candidates_any (A:Option Addr) (c n B s:Nat) (xs:List Int) (w:World) (h:Rd w B A n xs) (hB:B<=w.heap.size) (hs:s∈[2,3,4]) (hn:n=s*s) (hok:Hid (okAll xs s n)):
 Calls Tryz.prog 182 #[.agg #[.slice A n c,.int .i64 s]] w (RetSl w (mapTo (candG xs s) n)):=by
 obtain ⟨i0,hi,hz0,hz1,hz2⟩:=info_parts int_info
 have hs2:2<=s:=by simp at hs;omega
 have hs4:s<=4:=by simp at hs;omega
 have hn16:n<=16:=by simp at hs;rcases hs with rfl|rfl|rfl<;>omega
 have Hn:=Lib.hid hn;clear hn;have Hi:=Lib.hid (fun C=>cinfo C s);have Hone:=Lib.hid (fun C=>cone C s)
 have hzz:∀ u:World,(u.alloc (.cells #[.int .i64 0,.int .i64 0,.int .i64 0,.int .i64 0,.int .i64 0,.int .i64 0,.int .i64 0,.int .i64 0,.int .i64 0,.int .i64 0,.int .i64 0,.int .i64 0,.int .i64 0,.int .i64 0,.int .i64 0,.int .i64 0,.int .i64 0,.int .i64 0,.int .i64 0,.int .i64 0,.int .i64 0,.int .i64 0,.int .i64 0,.int .i64 0,.int .i64 0,.int .i64 0,.int .i64 0,.int .i64 0,.int .i64 0,.int .i64 0,.int .i64 0,.int .i64 0,.int .i64 0,.int .i64 0,.int .i64 0,.int .i64 0,.int .i64 0,.int .i64 0,.int .i64 0,.int .i64 0,.int .i64 0] 191)).heap[u.heap.size]? =some (.cells (ccells (fun _=>0) 0) 191 (0,0)):=fun u=>heap_alloc_new u _
 have Hzz:=Lib.hid hzz;clear hzz;have Key:=Lib.hid (fun w1=>cz_key A n c (s:Int) (cnt xs s n) w w1);have h1:=h.alloc hB (.cells #[.slice A n c,.int .i64 s] 75)
 have hB1:B<=(w.alloc (.cells #[.slice A n c,.int .i64 s] 75)).heap.size:=by simp;omega
 go_enter Tryz.func182,Tryz.ntmps182
 go_wp2_with (first
  |(go_at_call 191;refine (counted_any _ _ _ _ _ _ _ h1 hB1 hs Hn.out hok).mono ?_;rintro e w1 ⟨rfl,hb1⟩)
  |(refine wpList_store_row rfl 191 _ _ rfl w1.heap.size (ccells (cnt xs s n) s) rfl rfl 191 (ccells (fun _=>0) 0) (Hzz.out w1) (Hi.out _) rfl (Hone.out _) ?_;generalize hw0:World.setRow _ _ _=w2;obtain ⟨hx2,hc2,hb2,hg1,hg2⟩:=Key.out w1 hb1 w2 hw0;clear hw0 hb1)
  |(refine wpList_make_full _ rfl (.tmp 11) (.tmp 11) 23 rfl w.heap.size 3 i0 (.int .i64 0) 1 Tryz.underlying23 hi hz0 hz1 .i64 .i64 n n n rfl rfl rfl rfl (by rw [hz2];omega) (by simp only [maxLen];omega) hb2.size ?_;intro w3 hown hgr;have hc3:=(made_below hgr (Nat.le_refl _)).cell (p:=⟨w.heap.size,0,none⟩) (by show w.heap.size<w2.heap.size;omega);rw [hc2] at hc3))
 have ho3:=made_part (mapTo (candG xs s) n) hown;have hb3':=made_below hgr (Nat.le_refl _);have hx3:=Lib.hid (CBox.below hx2 hg2 hb3');have hb3:=step hb2 hb3';obtain ⟨G,hG⟩:∃ G,G=w1.heap.size:=⟨_,rfl⟩;obtain ⟨M,hM⟩:∃ M,M=w2.heap.size:=⟨_,rfl⟩;rw [<- hM] at ho3;rw [<- hG] at hx3;rw [<- hG,<-hM]
 have hne:G≠M:=by omega
 have hlo:w.heap.size<=M:=by omega
 clear hown hgr hb3' hx2 hc2 hc3 hb2 Key Hzz hz0 hz1 hz2 hi hG hM hg1 hg2
 go_loopw [16] (fun i wr=>∃ k:Nat,k<=n/\i=.int .i64 k/\Ow wr w.heap.size (some ⟨M,0,none⟩) n n (part (mapTo (candG xs s) n) k n)/\Hid (CBox wr G (cnt xs s n) s)/\Below w.heap.size w wr) (fun i _=>n-(intOf i).toNat)
 case atStart=>exact ⟨0,Nat.zero_le _,rfl,ho3,hx3,hb3⟩
 case round=>
  obtain ⟨k,hk,rfl,ho,hx,hb⟩:=hrel
  by_cases hlt:k<n
  ·obtain ⟨b,off,rfl,hbB,hck⟩:=(h.below (hb.mono hB)).at_ hlt;obtain ⟨x0,x4⟩:=hok.out k hlt;obtain ⟨v,hv⟩:=Int.eq_ofNat_of_zero_le x0;rw [hv] at hck;have hst:=(World.ownsRow.stored ho k (.int .i64 (nth (mapTo (candG xs s) n) k))).1;rw [part_set,mapTo_nth hlt] at hst;have hfill:=hst
   have hx6:∀ v:Value,Hid (CBox (wr.setCell ⟨M,k,none⟩ v) G (cnt xs s n) s):=fun v=>Lib.hid (hx.out.other hne)
   by_cases hz:v=0
   ·subst hz;obtain ⟨hr8,hc8⟩:=rc_lt s hs k (by have:=Hn.out;omega);have Hr:Hid ((k:Int)/(s:Int)=((k/s:Nat):Int)):=Lib.hid (by simp);have Hc:Hid ((s:Int)+(k:Int)%(s:Int)=((s+k%s:Nat):Int)):=Lib.hid (by simp)
    have Hg:=Lib.hid (show ((freeTo (cnt xs s n) (k/s) (s+k%s) s:Nat):Int)=candG xs s k by
     rw [free_cand hs Hn.out hok.out hlt (by rw [hv];rfl) s (Nat.le_refl _)];simp only [candG,candN,hv,Int.toNat_natCast]
     rw [if_neg (by decide)])
    have hC:∀ j,cnt xs s n j<=64:=fun j=>by have:=cnt_le xs s n j;omega
    have HC:=Lib.hid hC;clear hC hst hfill
    go_wp2_with (first
     |(refine wpList_load_row rfl 191 _ rfl G rfl 191 (ccells (cnt xs s n) s) (0,0) _ hx.out Tryz.underlying191 rfl (Hi.out _) ?_)
     |(go_at_call 192;refine (free_any (cnt xs s n) s k (k/s) (s+k%s) _ hs2 hs4 Hr Hc hr8 hc8 (by omega) HC.out).mono ?_;rintro e w4 ⟨rfl,hb4⟩;rw [Hg.out];have ho4:=ho.below hb4;obtain ⟨hold4,hfr4⟩:=ho4.cell hlt;have hx4:=Lib.hid (CBox.below hx.out hx.out.lt hb4);have hb4':=step hb hb4;have hst:=(World.ownsRow.stored ho4 k (.int .i64 (nth (mapTo (candG xs s) n) k))).1;rw [part_set,mapTo_nth hlt] at hst;have Hst:=Lib.hid hst;clear hst;have hx5:∀ v:Value,Hid (CBox (w4.setCell ⟨M,k,none⟩ v) G (cnt xs s n) s):=fun v=>Lib.hid (hx4.out.other hne);clear hb4))
    go_roundw
    case rel=>exact ⟨k+1,by omega,by go_num,Hst.out,hx5 _,hb4'.setCell (p:=(⟨M,k,none⟩:Addr)) hlo _⟩
    case measure=>simp [intOf];omega
   ·have Hg:=Lib.hid (show ((2^v:Nat):Int)=candG xs s k by
     simp only [candG,candN,hv,Int.toNat_natCast]
     rw [if_pos (by omega)])
    have hz1:((v:Int)==0)=false:=(by simp;omega);have hpw:=two_pow_nat v (by omega);have Hpw:=Lib.hid hpw;have Hfill:=Lib.hid hfill;obtain ⟨hold,hfr⟩:=ho.cell hlt;clear hpw hst hfill hz
    go_wp2
    go_roundw
    case rel=>exact ⟨k+1,by omega,by go_num,by rw [show (wrap64 (2^v))=candG xs s k from Hpw.out.trans Hg.out];exact Hfill.out,hx6 _,hb.setCell (p:=(⟨M,k,none⟩:Addr)) hlo _⟩
    case measure=>simp [intOf];omega
  ·obtain rfl:k=n:=by omega
   have hp:part (mapTo (candG xs s) k) k k=mapTo (candG xs s) k:=part_all' (mapTo_length _ _);rw [hp] at ho
   go_wp2
   go_ret
   have:=retSl_mk ho hb;exact this
end Go.Proofs.YtkeoflnmbcdmfaaGreatDoor
namespace Go.Proofs.YtkeoflnmbcdmfaaGreatDoor
open Go.ChangeShapes Go.WideShapes Go.ChangeAt Go.RowKit
theorem implCandidatesOf:ICandidatesOf:=by
 intro A c n B xs size w h hB hm;have hlen:=Lib.hid h.1;cases hg:gv xs size
 ·have HL:=Lib.hid (show candL xs size=[] by simp [candL,hg]);have h1:=h.alloc hB (.cells #[.slice A n c,.int .i64 size] 75)
  have hB1:B<=(w.alloc (.cells #[.slice A n c,.int .i64 size] 75)).heap.size:=by simp;omega
  have hB0:Below w.heap.size w (w.alloc (.cells #[.slice A n c,.int .i64 size] 75)):=(Below.refl _ _).alloc (Nat.le_refl _) _
  go_enter Tryz.func162,Tryz.ntmps162
  go_wp2_with (go_at_call 117;refine (implValid _ _ _ _ _ _ _ h1 hB1 hm).mono ?_;rintro e w1 ⟨rfl,hb1⟩;rw [hg])
  go_ret
  rw [HL.out];exact ⟨_,_,rfl,Ow.nil_ _ _,step hB0 hb1⟩
 ·obtain ⟨s,rfl,hs,hls⟩:=size_nat hg
  have hn:n=s*s:=by have:=hlen.out;omega
  have hok:=Lib.hid (gv_okAll hg hlen.out);have HL:=Lib.hid (show candL xs s=mapTo (candG xs s) n by simp [candL,hg,hlen.out]);have Hn:=Lib.hid hn;clear hn hls;have h1:=h.alloc hB (.cells #[.slice A n c,.int .i64 s] 75)
  have hB1:B<=(w.alloc (.cells #[.slice A n c,.int .i64 s] 75)).heap.size:=by simp;omega
  have hB0:Below w.heap.size w (w.alloc (.cells #[.slice A n c,.int .i64 s] 75)):=(Below.refl _ _).alloc (Nat.le_refl _) _
  go_enter Tryz.func162,Tryz.ntmps162
  go_wp2_with (first|(go_at_call 117;refine (implValid _ _ _ _ _ _ _ h1 hB1 hm).mono ?_;rintro e w1 ⟨rfl,hb1⟩;rw [hg];have hr1:=h1.below (hb1.mono hB1);have c0:=box_cell hb1 0;have c1:=box_cell hb1 1;have hB2:=step hB0 hb1;have hBw:B<=w1.heap.size:=Nat.le_trans hB hB2.size;clear hb1;simp only [List.getElem?_toArray,List.getElem?_cons_zero,List.getElem?_cons_succ] at c0 c1)|(go_at_call 182;refine (candidates_any _ _ _ _ _ _ _ hr1 hBw hs Hn.out hok).mono ?_;rintro e w2 ⟨A2,c2,rfl,ho2,hb2⟩;have hB3:=step hB2 hb2))
  go_ret
  rw [HL.out];exact ⟨_,_,rfl,ho2.mono hB2.size,hB3⟩
end Go.Proofs.YtkeoflnmbcdmfaaGreatDoor
set_option maxRecDepth 8000
namespace Go.Proofs.YtkeoflnmbcdmfaaGreatDoor
open Go.ChangeShapes Go.WideShapes Go.ChangeAt Go.RowKit
theorem rat_left {rs1 rs2:List RuleM} {n i:Nat} (hl:rs1.length=n) (hi:i<n):rat (rs1++rs2) i=rat rs1 i:=by
 simp [rat,List.getD_eq_getElem?_getD,List.getElem?_append_left (by omega:i<rs1.length)]
theorem rat_right {rs1 rs2:List RuleM} {n i:Nat} (hl:rs1.length=n):rat (rs1++rs2) (n+i)=rat rs2 i:=by
 simp [rat,List.getD_eq_getElem?_getD,List.getElem?_append_right (by omega:rs1.length<=n+i),hl]
def InR (w:World) (lo:Nat) (v:Value) (rs:List RuleM) (vs:List Value) (m:Nat):Prop:=
 ∀ i,i<m->∃ A' c',vs[i*3]? =some (.int .i64 (rat rs i).k)/\vs[i*3+1]? =some (.slice A' (rat rs i).xs.length c')/\vs[i*3+2]? =some (.int .i64 (rat rs i).v)/\Ow w lo A' (rat rs i).xs.length c' (rat rs i).xs/\(rat rs i).xs.length<=1099511627776/\∀ g,(Value.slice A' (rat rs i).xs.length c').ownBlock=some g->v.ownBlock≠some g
theorem inR_one {w:World} {lo:Nat} {v:Value} {rs:List RuleM} {vs:List Value} {m:Nat} (h:InR w lo v rs vs m) (hl:vs.length=m*3):∀ u∈vs,u.oneCell'=true:=by
 intro u hu;obtain ⟨j,hj,rfl⟩:=List.mem_iff_getElem.1 hu;obtain ⟨A',c',e0,e1,e2,_⟩:=h (j/3) (by omega);have hjj:vs[j]? =some vs[j]:=List.getElem?_eq_getElem hj
 have:j%3=0\/j%3=1\/j%3=2:=by omega
 rcases this with r|r|r
 ·rw [show j/3*3=j by omega,hjj] at e0;rw [Option.some.inj e0];rfl
 ·rw [show j/3*3+1=j by omega,hjj] at e1;rw [Option.some.inj e1];rfl
 ·rw [show j/3*3+2=j by omega,hjj] at e2;rw [Option.some.inj e2];rfl
theorem run_push_rulesV {w:World} (ty:TypeId) (lo:Nat) (A:Option Addr) (n c:Nat) (rs1:List RuleM) (vs1:List Value) (A2:Option Addr) (m c2:Nat) (rs2:List RuleM) (vs2:List Value) (lo2:Nat) (l1:rs1.length=n)
 (hown:w.ownsRow lo 88 3 (.slice A n c) n vs1) (hin1:InR w lo (.slice A n c) rs1 vs1 n) (hown2:w.ownsRow lo2 88 3 (.slice A2 m c2) m vs2) (hin2:InR w lo (.slice A n c) rs2 vs2 m) (hmn:0<m\/n=0)
 (hn:n<=1099511627776) (hm:m<=1099511627776) (hlo:lo<=w.heap.size):
 ∃ A' c' w',(Builtin.append_ #[24,24] ty #[.slice A n c,.slice A2 m c2]).run Tryz.prog w=.ok (.slice A' (n+m) c') w'/\(w'.ownsRow lo 88 3 (.slice A' (n+m) c') (n+m) (vs1++vs2)/\InR w' lo (.slice A' (n+m) c') (rs1++rs2) (vs1++vs2) (n+m))/\w.grownBy w' (Value.slice A n c).ownBlock/\(∀ g,(Value.slice A' (n+m) c').ownBlock=some g->(Value.slice A n c).ownBlock=some g\/g=w.heap.size):=by
 obtain ⟨i0,hi,hz0,hz1,hz2⟩:=info_parts rule_parts;obtain ⟨hvl2,hcase⟩:=id hown2;have hvl1:=hown.1
 by_cases h0:0<m
 ·rcases hcase with ⟨_,h00⟩|⟨g2,cap2,cur,hv,_,hrow,h1,h2,h3,h4⟩
  ·omega
  ·injection hv with e1 _ e2
   subst e1
   have hcell:∀ j u,vs2[j]? =some u->w.cell? ((⟨g2,0,none⟩:Addr).add j)=some u:=fun j u hj=>by
    have hadd:(⟨g2,0,none⟩:Addr).add j=⟨g2,j,none⟩:=(by unfold Addr.add;split<;>simp_all);rw [hadd,cell_of_row w g2 j cur _ _ hrow];rw [<- h4,List.getElem?_take] at hj
    split at hj
    ·simpa using hj
    ·cases hj
   obtain ⟨g,cap,w',hrun,k2,k3,k4,k5⟩:=run_append_lies (P:=Tryz.prog) w 24 ty lo 88 i0 (.agg #[.int .i64 0,.slice none 0 0,.int .i64 0]) 3 40 Tryz.underlying24 hi hz0 hz1 hz2 rfl (by decide) _ n vs1 hown ⟨g2,0,none⟩ m c2 vs2 hvl2 hcell (inR_one hin2 hvl2) h0 (by simp only [maxLen];omega) (by omega) hlo _ rfl
   have hlast:∀ g',(Value.slice (some ⟨g,0,none⟩) (n+m) cap).ownBlock=some g'->(Value.slice A n c).ownBlock=some g'\/g'=w.heap.size:=fun g' hg'=>by
    have:g'=g:=(by simp [Value.ownBlock] at hg';omega);subst this;exact k4
   have hout:∀ (A':Option Addr) (l c':Nat) (xs:List Int),Ow w lo A' l c' xs->(∀ b,(Value.slice A' l c').ownBlock=some b->(Value.slice A n c).ownBlock≠some b)->Ow w' lo A' l c' xs/\∀ b,(Value.slice A' l c').ownBlock=some b->(Value.slice (some ⟨g,0,none⟩) (n+m) cap).ownBlock≠some b:=fun A' l c' xs ho hne=>by
    refine ⟨Ow.far ho k3 hne,fun b hb e=>?_⟩;have:=World.ownsRow.lt ho b hb
    rcases hlast b e with h|h
    ·exact hne b hb h
    ·omega
   refine ⟨some ⟨g,0,none⟩,cap,w',hrun,⟨k2,fun i hi=>?_⟩,k3,hlast⟩
   by_cases hlt:i<n
   ·obtain ⟨A',c',e0,e1,e2,e3,e4,e5⟩:=hin1 i hlt;rw [rat_left l1 hlt];obtain ⟨q1,q2⟩:=hout _ _ _ _ e3 e5;exact ⟨A',c',by rw [List.getElem?_append_left (by omega)];exact e0,by rw [List.getElem?_append_left (by omega)];exact e1,by rw [List.getElem?_append_left (by omega)];exact e2,q1,e4,q2⟩
   ·obtain ⟨q,rfl⟩:∃ q,i=n+q:=⟨i-n,by omega⟩;obtain ⟨A',c',e0,e1,e2,e3,e4,e5⟩:=hin2 q (by omega);rw [rat_right l1];obtain ⟨q1,q2⟩:=hout _ _ _ _ e3 e5;exact ⟨A',c',by rw [List.getElem?_append_right (by omega),show (n+q)*3-vs1.length=q*3 by omega];exact e0,by rw [List.getElem?_append_right (by omega),show (n+q)*3+1-vs1.length=q*3+1 by omega];exact e1,by rw [List.getElem?_append_right (by omega),show (n+q)*3+2-vs1.length=q*3+2 by omega];exact e2,q1,e4,q2⟩
 ·obtain rfl:m=0:=by omega
  obtain rfl:n=0:=by omega
  have hsrc:Go.Src Tryz.prog i0.size 24 (.slice A2 0 c2) 0 [] w:=by
   cases A2 with
   |none=>exact Go.Src.ofNil w Tryz.underlying24 c2
   |some a=>exact Go.Src.ofSlice w Tryz.underlying24 a 0 c2 [] (by simp) (fun j u hj=>by simp at hj) (fun u hu=>by simp at hu)
  exact ⟨A,c,w,run_append_nothing w 24 24 ty 88 i0 Tryz.underlying24 hi A 0 c (Nat.zero_le _) _ hsrc,⟨by rw [show vs2=[] from List.eq_nil_of_length_eq_zero (by omega),List.append_nil];exact hown,fun i hi=>absurd hi (by omega)⟩,World.grownBy.refl _ _,fun g hg=>.inl hg⟩
theorem run_push_rules {w:World} (ty:TypeId) (lo:Nat) (A:Option Addr) (n c:Nat) (rs1:List RuleM) (vs1:List Value) (A2:Option Addr) (m c2:Nat) (rs2:List RuleM) (vs2:List Value) (lo2:Nat) (l1:rs1.length=n)
 (hown:w.ownsRow lo 88 3 (.slice A n c) n vs1) (hin1:InR w lo (.slice A n c) rs1 vs1 n) (hown2:w.ownsRow lo2 88 3 (.slice A2 m c2) m vs2) (hin2:InR w lo (.slice A n c) rs2 vs2 m) (hmn:0<m\/n=0)
 (hn:n<=1099511627776) (hm:m<=1099511627776) (hlo:lo<=w.heap.size):
 ∃ A' c' w',(Builtin.append_ #[24,24] ty #[.slice A n c,.slice A2 m c2]).run Tryz.prog w=.ok (.slice A' (n+m) c') w'/\OwR w' lo (.slice A' (n+m) c') (rs1++rs2) (n+m)/\w.grownBy w' (Value.slice A n c).ownBlock/\(∀ g,(Value.slice A' (n+m) c').ownBlock=some g->(Value.slice A n c).ownBlock=some g\/g=w.heap.size):=by
 obtain ⟨A',c',w',hrun,⟨k1,k2⟩,k3,k4⟩:=run_push_rulesV ty lo A n c rs1 vs1 A2 m c2 rs2 vs2 lo2 l1 hown hin1 hown2 hin2 hmn hn hm hlo;exact ⟨A',c',w',hrun,⟨_,k1,k2⟩,k3,k4⟩
def CbV (vs:List Value) (m:Nat) (Q:Nat->Prop):Prop:=∀ i A' n' c',i<m->vs[i*3+1]? =some (.slice A' n' c')->∀ g,(Value.slice A' n' c').ownBlock=some g->Q g
def SpQ (w:World) (lo:Nat) (v:Value) (k:Nat) (Q:Nat->Prop):Prop:=∃ vs,w.ownsRow lo 88 3 v k vs/\CbV vs k Q
theorem CbV.nil {Q:Nat->Prop}:CbV [] 0 Q:=fun i _ _ _ hi=>absurd hi (by omega)
theorem CbV.app {vs1 vs2:List Value} {n m:Nat} {Q:Nat->Prop} (hl:vs1.length=n*3) (h1:CbV vs1 n Q) (h2:CbV vs2 m Q):CbV (vs1++vs2) (n+m) Q:=by
 intro i A' n' c' hi he g hg
 by_cases hlt:i<n
 ·rw [List.getElem?_append_left (by omega)] at he;exact h1 i A' n' c' hlt he g hg
 ·obtain ⟨q,rfl⟩:∃ q,i=n+q:=⟨i-n,by omega⟩;rw [List.getElem?_append_right (by omega),show (n+q)*3+1-vs1.length=q*3+1 by omega] at he;exact h2 q A' n' c' (by omega) he g hg
theorem CbV.one {x y z:Value} {Q:Nat->Prop} (h:∀ g,y.ownBlock=some g->Q g):CbV [x,y,z] 1 Q:=by
 intro i A' n' c' hi he g hg
 obtain rfl:i=0:=by omega
 simp at he
 rw [he] at h;exact h g hg
theorem CbV.imp {vs:List Value} {m:Nat} {Q Q':Nat->Prop} (h:CbV vs m Q) (hq:∀ g,Q g->Q' g):CbV vs m Q':=fun i A' n' c' hi he g hg=>hq g (h i A' n' c' hi he g hg)
theorem SpQ.imp {w:World} {lo k:Nat} {v:Value} {Q Q':Nat->Prop} (h:SpQ w lo v k Q) (hq:∀ g,Q g->Q' g):SpQ w lo v k Q':=by
 obtain ⟨vs,h1,h2⟩:=h;exact ⟨vs,h1,h2.imp hq⟩
theorem SpQ.map {w w':World} {lo k:Nat} {v:Value} {Q:Nat->Prop} (h:SpQ w lo v k Q) (hm:∀ vs,w.ownsRow lo 88 3 v k vs->w'.ownsRow lo 88 3 v k vs):SpQ w' lo v k Q:=by
 obtain ⟨vs,h1,h2⟩:=h;exact ⟨vs,hm vs h1,h2⟩
theorem SpQ.below {w w':World} {lo k:Nat} {v:Value} {Q:Nat->Prop} (h:SpQ w lo v k Q) (hb:Below w.heap.size w w'):SpQ w' lo v k Q:=
 h.map fun vs hown=>World.ownsRow.kept hown (row:=none) ⟨hb.os,hb.tape,hb.output,hb.size,fun k hk _=>hb.block k hk⟩ (by cases e:v.ownBlock<;>simp)
theorem SpQ.keptL {w w':World} {lo G k:Nat} {v:Value} {Q:Nat->Prop} (h:SpQ w lo v k Q) (hg:w.grownBy w' (some G)) (hG:G<lo):SpQ w' lo v k Q:=
 h.map fun vs hown=>World.ownsRow.kept hown hg (by
  cases e:v.ownBlock
  ·exact .inl rfl
  ·refine .inr (fun e2=>?_);have h1:=(World.ownsRow.lt hown _ e).1;have h2:=Option.some.inj e2
   omega)
theorem SpQ.nil {w:World} {lo:Nat} {Q:Nat->Prop}:SpQ w lo (.slice none 0 0) 0 Q:=⟨[],World.ownsRow_nil _ _ _ _,CbV.nil⟩
theorem ownsRow_same {w:World} {lo lo' k sz:Nat} {e:TypeId} {v:Value} {xs ys:List Value} (h:w.ownsRow lo e sz v k xs) (h':w.ownsRow lo' e sz v k ys):xs=ys:=by
 rcases h.2 with ⟨e1,h0⟩|⟨g,cap,cur,hv,_,hg,_,_,_,h4⟩
 ·rw [List.eq_nil_of_length_eq_zero (by rw [h.1,h0,Nat.zero_mul]:xs.length=0),List.eq_nil_of_length_eq_zero (by rw [h'.1,h0,Nat.zero_mul]:ys.length=0)]
 ·rcases h'.2 with ⟨e1',h0'⟩|⟨g',cap',cur',hv',_,hg',_,_,_,h4'⟩
  ·rw [List.eq_nil_of_length_eq_zero (by rw [h.1,h0',Nat.zero_mul]:xs.length=0),List.eq_nil_of_length_eq_zero (by rw [h'.1,h0',Nat.zero_mul]:ys.length=0)]
  ·rw [hv] at hv'
   injection hv' with e1 _ _
   injection e1 with e1
   injection e1 with e1 _ _
   subst e1;rw [hg] at hg'
   injection hg' with hg'
   injection hg' with e2 _ _
   subst e2;rw [<- h4,<-h4']
theorem OwR.with_ {w:World} {lo k:Nat} {v:Value} {rs:List RuleM} {Q:Nat->Prop} (h:OwR w lo v rs k) (hs:SpQ w lo v k Q):∃ vs,w.ownsRow lo 88 3 v k vs/\InR w lo v rs vs k/\CbV vs k Q:=by
 obtain ⟨vs,h1,h2⟩:=h;obtain ⟨vs',h3,h4⟩:=hs;obtain rfl:=ownsRow_same h1 h3;exact ⟨vs,h1,h2,h4⟩
theorem OwR.hi {w:World} {lo k:Nat} {v:Value} {rs:List RuleM} (h:OwR w lo v rs k):SpQ w lo v k (fun g=>g<w.heap.size):=by
 obtain ⟨vs,h1,h2⟩:=h;refine ⟨vs,h1,fun i A' n' c' hi he g hg=>?_⟩;obtain ⟨A2,c2,_,e1,_,ho,_⟩:=h2 i hi;rw [he] at e1
 injection e1 with e1
 rw [e1] at hg;exact ho.own_hi g hg
theorem OwR.lo_ {w:World} {lo k:Nat} {v:Value} {rs:List RuleM} (h:OwR w lo v rs k):SpQ w lo v k (fun g=>lo<=g):=by
 obtain ⟨vs,h1,h2⟩:=h;refine ⟨vs,h1,fun i A' n' c' hi he g hg=>?_⟩;obtain ⟨A2,c2,_,e1,_,ho,_⟩:=h2 i hi;rw [he] at e1
 injection e1 with e1
 rw [e1] at hg;exact ho.own_lo g hg
theorem step_push_rules {w:World} {ops:Array Oper} {o:Oper} {a:Act} {K:Act->World->Prop} {Q:Exit->Act->World->Prop} {E:Prop} (hgd:o.guard=none) (s x:Operand)
 (ho:o.op=.call { callee:=.builtin .append,args:= #[s,x],argTypes:= #[24,24] })
 (lo:Nat) (A:Option Addr) (n c:Nat) (rs1:List RuleM) (vs1:List Value) (A2:Option Addr) (m c2:Nat) (rs2:List RuleM) (vs2:List Value) (lo2:Nat) (hs:a.eval s=.slice A n c) (hx:a.eval x=.slice A2 m c2) (l1:rs1.length=n)
 (hown:w.ownsRow lo 88 3 (.slice A n c) n vs1) (hin1:InR w lo (.slice A n c) rs1 vs1 n) (hown2:w.ownsRow lo2 88 3 (.slice A2 m c2) m vs2) (hin2:InR w lo (.slice A n c) rs2 vs2 m) (hmn:0<m\/n=0)
 (hn:n<=1099511627776) (hm:m<=1099511627776) (hlo:lo<=w.heap.size)
 (h:∀ A' c' w',OwR w' lo (.slice A' (n+m) c') (rs1++rs2) (n+m)->w.grownBy w' (Value.slice A n c).ownBlock->(∀ g,(Value.slice A' (n+m) c').ownBlock=some g->(Value.slice A n c).ownBlock=some g\/g=w.heap.size)->K (a.put o.dst (.slice A' (n+m) c')) w'):
 if Region.wanted o (yielded ops a.tmps)=true then Oper.wp Tryz.prog o a w K Q else E:=by
 obtain ⟨A',c',w',hrun,h1,h2,h3⟩:=run_push_rules o.type lo A n c rs1 vs1 A2 m c2 rs2 vs2 lo2 l1 hown hin1 hown2 hin2 hmn hn hm hlo
 have hw:Region.wanted o (yielded ops a.tmps)=true:=by simp [Region.wanted,hgd]
 rw [if_pos hw];unfold Oper.wp execOp;simp only [ho,resolve,invoke,builtin,Sem.run_bind,Sem.run_pure,Result.andThen_ok,List.map_toArray,List.map_cons,List.map_nil,hs,hx,hrun];exact h A' c' w' h1 h2 h3
end Go.Proofs.YtkeoflnmbcdmfaaGreatDoor
namespace Go.Proofs.YtkeoflnmbcdmfaaGreatDoor
open Go.ChangeShapes Go.WideShapes Go.ChangeAt Go.RowKit
theorem oper_val {P:Program} {o:Oper} {a:Act} {w w':World} {K:Act->World->Prop} {Q:Exit->Act->World->Prop} {v:Value} (hrun:(execOp a.eval o).run P w=.ok (.value v) w') (h:K (a.put o.dst v) w'):o.wp P a w K Q:=by
 unfold Oper.wp;rw [hrun];exact h
theorem oper_call {P:Program} {o:Oper} {a:Act} {w:World} {K:Act->World->Prop} {Q:Exit->Act->World->Prop} {f:FuncId} {args:Array Value} {R:Ending->World->Prop} (hrun:(execOp a.eval o).run P w=.ok (.enter f args) w) (hc:Calls P f args w R) (h:∀ e w',R e w'->∃ v,e=.returned v/\K (a.put o.dst v) w'):o.wp P a w K Q:=by
 unfold Oper.wp;rw [hrun];refine hc.mono (fun e w' hr=>?_);obtain ⟨v,rfl,hk⟩:=h e w' hr;exact hk
theorem wp_region_madeR {P:Program} {ops:Array Oper} {Q:Exit->Act->World->Prop} {id:Nat} {a0:Act} {W:World} (m:Nat) (d:Nat->Nat) (G:Nat->Value->World->Prop) (Rel:World->World->Prop) (Eff:Nat->World->World->Prop) (C:Nat->World->Prop) (hC0:∀ j,C j W.drew) (hrefl:Rel W W.drew) (htrans:∀ w w',Rel W w->Rel w w'->Rel W w')
 (hm:P.follows .mixedOrders=true) (hlen:ops.size=m+1) (hback:∀ (i:Nat) (o:Oper),ops[i]? =some o->∀ e∈o.after,e.on<i)
 (hd:∀ i o,i<m->ops[i]? =some o->o.dst=some (d i)/\o.guard=none) (hinj:∀ i j,i<m->j<m->d i=d j->i=j) (hlt:∀ i,i<m->d i<a0.tmps.size)
 (hl:∀ o,ops[m]? =some o->o.dst=none/\o.guard=none/\∀ j,j<m->∃ e∈o.after,e.on=j/\Region.binds .any e=true)
 (hG:∀ j i v w w',j≠i->Rel W w->Eff i w w'->G j v w->G j v w')
 (hstep:∀ i o a w (K:Act->World->Prop),i<m->ops[i]? =some o->Rel W w->Off d m a a0->(∀ e∈o.after,Region.binds .any e=true->G e.on (a.eval (.tmp (d e.on))) w)->C i w->(∀ v w',Rel w w'->Eff i w w'->(∀ j,j≠i->C j w->C j w')->G i v w'->K (a.put o.dst v) w')->o.wp P a w K Q)
 (hlast:∀ o a w,ops[m]? =some o->Rel W w->Off d m a a0->(∀ j,j<m->G j (a.eval (.tmp (d j))) w)->∃ w',(execOp a.eval o).run P w=.ok .skip w'/\Q .normal a w'):
 (Code.region id ops true).wp P Q a0 W:=by
 refine wp_region_inv (Inv:=fun l a w=>l.size=ops.size/\((l.getD m false=false/\Rel W w/\Off d m a a0/\(∀ j,l.getD j false=false->C j w)/\∀ j,j<m->l.getD j false=true->G j (a.eval (.tmp (d j))) w)\/((∀ j,j<ops.size->l.getD j false=true)/\Q .normal a w))) hm hback (fun l a w h=>h.1) ?step ?done ?h0
 case done=>
  rintro l a w ⟨hs,h⟩ hall
  rcases h with ⟨h1,_⟩|⟨_,h⟩
  ·rw [hall m (by omega)] at h1;cases h1
  ·exact h
 case h0=>
  refine ⟨by simp,.inl ⟨by rw [Array.getD_eq_getD_getElem?,Array.getElem?_replicate];split<;>rfl,hrefl,⟨rfl,rfl,fun _ _=>rfl⟩,fun j _=>hC0 j,fun j hj hlj=>?_⟩⟩
  simp at hlj
  have:j<ops.size:=by omega
  simp [this] at hlj
 case step=>
  rintro l a w i o ⟨hs,h⟩ ho hli hall;have hi:i<ops.size:=(Array.getElem?_eq_some_iff.1 ho).1
  have hil:i<l.size:=by omega
  rcases h with ⟨h1,hb,hoff,hcj,hg⟩|⟨h,_⟩
  ·refine wpOp_step ho (fun K hK=>?_);have hsz:(l.setIfInBounds i true).size=ops.size:=(by simpa using hs)
   by_cases him:i=m
   ·subst him;obtain ⟨q1,q2,q3⟩:=hl o ho
    have hallj:∀ j,j<i->l.getD j false=true:=fun j hj=>by
     obtain ⟨e,he,rfl,hbd⟩:=q3 j hj;exact hall e he hbd
    obtain ⟨w',hrun,hq⟩:=hlast o a w ho hb hoff (fun j hj=>hg j hj (hallj j hj));rw [if_pos (by simp [Region.wanted,q2])];unfold Oper.wp;rw [hrun];have hput:a.put o.dst undef=a:=(by rw [q1];rfl);refine hK _ _ ⟨hsz,.inr ⟨fun j hj=>?_,?_⟩⟩
    ·by_cases e:j=i
     ·subst e;simp [hil]
     ·have:=hallj j (by omega);have hjl:j<l.size:=(by omega);have hset:(l.setIfInBounds i true).getD j false=l.getD j false:=(by simp [Array.getElem?_setIfInBounds_ne (fun e'=>e (Eq.symm e'))]);rw [hset];exact this
    ·first|exact hq|(rw [hput];exact hq)
   ·have him':i<m:=(by omega);obtain ⟨q1,q2⟩:=hd i o him' ho
    have hpre:∀ e∈o.after,Region.binds .any e=true->G e.on (a.eval (.tmp (d e.on))) w:=fun e he hbd=>hg e.on (Nat.lt_trans (hback i o ho e he) him') (hall e he hbd)
    rw [if_pos (by simp [Region.wanted,q2])];refine hstep i o a w K him' ho hb hoff hpre (hcj i (by simp [hil] at hli ⊢;exact hli)) (fun v w' hb' hef hcs hgi=>?_);have hdlt:d i<a.tmps.size:=(by rw [hoff.1];exact hlt i him')
    have hset:∀ j,(l.setIfInBounds i true).getD j false=if j=i then true else l.getD j false:=fun j=>by
     by_cases e:j=i
     ·subst e;simp [hil]
     ·rw [if_neg e];simp [Array.getElem?_setIfInBounds_ne (fun e'=>e (Eq.symm e'))]
    refine hK _ _ ⟨hsz,.inl ⟨by rw [hset,if_neg (fun e=>him e.symm)];exact h1,htrans _ _ hb hb',?_,fun j hlj=>(by rw [hset] at hlj;split at hlj;(cases hlj);(rename_i hji;exact hcs j hji (hcj j hlj))),fun j hj hlj=>?_⟩⟩
    ·rw [q1];refine ⟨by rw [size_put];exact hoff.1,hoff.2.1,fun t ht=>?_⟩;rw [<- hoff.2.2 t ht]
     simp [Act.put,Array.getElem?_setIfInBounds_ne (ht i him')]
    ·rw [q1]
     by_cases e:j=i
     ·subst e;rw [eval_put_same hdlt];exact hgi
     ·rw [eval_put_ne (fun e'=>e (hinj _ _ hj him' e'.symm))];rw [hset,if_neg e] at hlj;exact hG _ _ _ _ _ e hb hef (hg j hj hlj)
  ·have:=h i hi
   simp [hil] at hli this
   rw [this] at hli;cases hli
theorem wp_region_dsR {P:Program} {ops:Array Oper} {Q:Exit->Act->World->Prop} {id:Nat} {a0:Act} {W:World} (ds:List Nat) (G:Nat->Value->World->Prop) (Rel:World->World->Prop) (Eff:Nat->World->World->Prop) (C:Nat->World->Prop) (hC0:∀ j,C j W.drew) (hrefl:Rel W W.drew) (htrans:∀ w w',Rel W w->Rel w w'->Rel W w')
 (hm:P.follows .mixedOrders=true) (hc:chkOps ops ds=true) (hlt:∀ t∈ds,t<a0.tmps.size)
 (hG:∀ j i v w w',j≠i->Rel W w->Eff i w w'->G j v w->G j v w')
 (hstep:∀ (i:Nat) (o:Oper) (a:Act) (w:World) (K:Act->World->Prop),i<ds.length->ops[i]? =some o->Rel W w->(∀ t,t∉ds->a.eval (.tmp t)=a0.eval (.tmp t))->(∀ e∈o.after,Region.binds .any e=true->G e.on (a.eval (.tmp (ds.getD e.on 0))) w)->C i w->(∀ v w',Rel w w'->Eff i w w'->(∀ j,j≠i->C j w->C j w')->G i v w'->K (a.put o.dst v) w')->o.wp P a w K Q)
 (hlast:∀ (o:Oper) (a:Act) (w:World),ops[ds.length]? =some o->Rel W w->a.defers=a0.defers->a.tmps=ds.foldl (fun tm t=>tm.setIfInBounds t (a.tmps.getD t undef)) a0.tmps->(∀ t,t∉ds->a.eval (.tmp t)=a0.eval (.tmp t))->(∀ j,j<ds.length->G j (a.eval (.tmp (ds.getD j 0))) w)->∃ w',(execOp a.eval o).run P w=.ok .skip w'/\Q .normal a w'):
 (Code.region id ops true).wp P Q a0 W:=by
 simp only [chkOps,Bool.and_eq_true,beq_iff_eq,List.all_eq_true,List.mem_range,decide_eq_true_eq] at hc;obtain ⟨⟨⟨⟨c1,c2⟩,c3⟩,c4⟩,c5⟩:=hc
 have hout:∀ t,t∉ds->∀ j,j<ds.length->ds.getD j 0≠t:=fun t ht j hj e=>ht (by
  rw [<- e,List.getD_eq_getElem?_getD,List.getElem?_eq_getElem hj];exact List.getElem_mem _)
 have hmem:∀ j,j<ds.length->ds.getD j 0∈ds:=fun j hj=>by
  rw [List.getD_eq_getElem?_getD,List.getElem?_eq_getElem hj];exact List.getElem_mem _
 refine wp_region_madeR ds.length (fun j=>ds.getD j 0) G Rel Eff C hC0 hrefl htrans hm c1 ?back ?hd ?inj (fun i hi=>hlt _ (hmem i hi)) ?hl hG ?step ?last
 case back=>
  intro i o ho e he;have hi:i<ops.size:=(Array.getElem?_eq_some_iff.1 ho).1;have:=c2 i hi;rw [ho] at this;simp only [Array.all_eq_true_iff_forall_mem,decide_eq_true_eq] at this;exact this e he
 case hd=>
  intro i o hi ho;have:=c3 i hi;rw [ho] at this;simp only [Bool.and_eq_true,decide_eq_true_eq,Option.isNone_iff_eq_none] at this;exact this
 case inj=>
  intro i j hi hj e;simp only [List.getD_eq_getElem?_getD,List.getElem?_eq_getElem hi,List.getElem?_eq_getElem hj,Option.getD_some] at e;exact (List.getElem_inj c5).1 e
 case hl=>
  intro o ho;rw [ho] at c4;simp only [Bool.and_eq_true,Option.isNone_iff_eq_none,List.all_eq_true,List.mem_range] at c4;refine ⟨c4.1.1,c4.1.2,fun j hj=>?_⟩;obtain ⟨e,he,h⟩:=Array.any_eq_true'.1 (c4.2 j hj);rw [Bool.and_eq_true,beq_iff_eq] at h;exact ⟨e,he,h.1,h.2⟩
 case step=>
  intro i o a w K hi ho hb hoff hpre hc hK;exact hstep i o a w K hi ho hb (fun t ht=>hoff.eval (hout t ht)) hpre hc hK
 case last=>
  intro o a w ho hb hoff hpre;refine hlast o a w ho hb hoff.2.1 (frame_of ds hoff.1 (fun t ht=>hoff.2.2 t (hout t ht))) (fun t ht=>hoff.eval (hout t ht)) hpre
end Go.Proofs.YtkeoflnmbcdmfaaGreatDoor
namespace Go.Proofs.YtkeoflnmbcdmfaaGreatDoor
open Go.ChangeShapes Go.WideShapes Go.ChangeAt Go.RowKit
def chkOpsA (ops:Array Oper) (ds:List Nat) (r:Nat):Bool:=
 ops.size==ds.length+1&&((List.range ops.size).all fun i=>match ops[i]? with
  |some o=>o.after.all fun e=>decide (e.on<i)
  |none=>false)&&((List.range ds.length).all fun i=>match ops[i]? with
  |some o=>decide (o.dst=some (ds.getD i 0))&&o.guard.isNone
  |none=>false)&&(match ops[ds.length]? with
  |some o=>decide (o.dst=some r)&&o.guard.isNone&&(List.range ds.length).all fun j=>o.after.any fun e=>e.on==j&&Region.binds .any e
  |none=>false)&&decide ds.Nodup
theorem wp_region_madeA {P:Program} {ops:Array Oper} {Q:Exit->Act->World->Prop} {id:Nat} {a0:Act} {W:World} (m r:Nat) (d:Nat->Nat) (G:Nat->Value->World->Prop) (Rel:World->World->Prop) (Eff:Nat->World->World->Prop) (C:Nat->World->Prop) (hC0:∀ j,C j W.drew) (hrefl:Rel W W.drew) (htrans:∀ w w',Rel W w->Rel w w'->Rel W w')
 (hm:P.follows .mixedOrders=true) (hlen:ops.size=m+1) (hback:∀ (i:Nat) (o:Oper),ops[i]? =some o->∀ e∈o.after,e.on<i)
 (hd:∀ i o,i<m->ops[i]? =some o->o.dst=some (d i)/\o.guard=none) (hinj:∀ i j,i<m->j<m->d i=d j->i=j) (hlt:∀ i,i<m->d i<a0.tmps.size)
 (hl:∀ o,ops[m]? =some o->o.dst=some r/\o.guard=none/\∀ j,j<m->∃ e∈o.after,e.on=j/\Region.binds .any e=true)
 (hG:∀ j i v w w',j≠i->Rel W w->Eff i w w'->G j v w->G j v w')
 (hstep:∀ i o a w (K:Act->World->Prop) (D:Nat->Prop),(∀ e∈o.after,Region.binds .any e=true->D e.on)->(∀ i' o',ops[i']? =some o'->D i'->∀ e∈o'.after,Region.binds .any e=true->D e.on)->i<m->ops[i]? =some o->Rel W w->Off d m a a0->(∀ e∈o.after,Region.binds .any e=true->G e.on (a.eval (.tmp (d e.on))) w)->C i w->(∀ v w',Rel w w'->Eff i w w'->(∀ j,j≠i->¬ D j->C j w->C j w')->G i v w'->K (a.put o.dst v) w')->o.wp P a w K Q)
 (hlast:∀ o a w,ops[m]? =some o->Rel W w->Off d m a a0->(∀ j,j<m->G j (a.eval (.tmp (d j))) w)->∃ v w',(execOp a.eval o).run P w=.ok (.value v) w'/\Q .normal (a.put (some r) v) w'):
 (Code.region id ops true).wp P Q a0 W:=by
 refine wp_region_inv (Inv:=fun l a w=>(l.size=ops.size/\∀ i' o',ops[i']? =some o'->l.getD i' false=true->∀ e∈o'.after,Region.binds .any e=true->l.getD e.on false=true)/\((l.getD m false=false/\Rel W w/\Off d m a a0/\(∀ j,l.getD j false=false->C j w)/\∀ j,j<m->l.getD j false=true->G j (a.eval (.tmp (d j))) w)\/((∀ j,j<ops.size->l.getD j false=true)/\Q .normal a w))) hm hback (fun l a w h=>h.1.1) ?step ?done ?h0
 case done=>
  rintro l a w ⟨⟨hs,_⟩,h⟩ hall
  rcases h with ⟨h1,_⟩|⟨_,h⟩
  ·rw [hall m (by omega)] at h1;cases h1
  ·exact h
 case h0=>
  refine ⟨⟨by simp,fun i' o' _ hd'=>by rw [Array.getD_eq_getD_getElem?,Array.getElem?_replicate] at hd';split at hd'<;>cases hd'⟩,.inl ⟨by rw [Array.getD_eq_getD_getElem?,Array.getElem?_replicate];split<;>rfl,hrefl,⟨rfl,rfl,fun _ _=>rfl⟩,fun j _=>hC0 j,fun j hj hlj=>?_⟩⟩
  simp at hlj
  have:j<ops.size:=by omega
  simp [this] at hlj
 case step=>
  rintro l a w i o ⟨⟨hs,hcl⟩,h⟩ ho hli hall;have hi:i<ops.size:=(Array.getElem?_eq_some_iff.1 ho).1
  have hil:i<l.size:=by omega
  rcases h with ⟨h1,hb,hoff,hcj,hg⟩|⟨h,_⟩
  ·refine wpOp_step ho (fun K hK=>?_)
   have hset0:∀ j,(l.setIfInBounds i true).getD j false=if j=i then true else l.getD j false:=fun j=>by
    by_cases e:j=i
    ·subst e;simp [hil]
    ·rw [if_neg e];simp [Array.getElem?_setIfInBounds_ne (fun e'=>e (Eq.symm e'))]
   have hsz:(l.setIfInBounds i true).size=ops.size/\∀ i' o',ops[i']? =some o'->(l.setIfInBounds i true).getD i' false=true->∀ e∈o'.after,Region.binds .any e=true->(l.setIfInBounds i true).getD e.on false=true:=by
    refine ⟨by simpa using hs,fun i' o' ho' hd' e he hbd=>?_⟩;rw [hset0] at hd' ⊢
    split
    ·rfl
    ·split at hd'
     ·rename_i _ hii
      subst hii;rw [ho] at ho'
      injection ho' with ho'
      subst ho';exact hall e he hbd
     ·exact hcl i' o' ho' hd' e he hbd
   by_cases him:i=m
   ·subst him;obtain ⟨q1,q2,q3⟩:=hl o ho
    have hallj:∀ j,j<i->l.getD j false=true:=fun j hj=>by
     obtain ⟨e,he,rfl,hbd⟩:=q3 j hj;exact hall e he hbd
    obtain ⟨v,w',hrun,hq⟩:=hlast o a w ho hb hoff (fun j hj=>hg j hj (hallj j hj));rw [if_pos (by simp [Region.wanted,q2])];unfold Oper.wp;rw [hrun];refine hK _ _ ⟨hsz,.inr ⟨fun j hj=>?_,?_⟩⟩
    ·by_cases e:j=i
     ·subst e;simp [hil]
     ·have:=hallj j (by omega);have hjl:j<l.size:=(by omega);have hset:(l.setIfInBounds i true).getD j false=l.getD j false:=(by simp [Array.getElem?_setIfInBounds_ne (fun e'=>e (Eq.symm e'))]);rw [hset];exact this
    ·rw [q1];exact hq
   ·have him':i<m:=(by omega);obtain ⟨q1,q2⟩:=hd i o him' ho
    have hpre:∀ e∈o.after,Region.binds .any e=true->G e.on (a.eval (.tmp (d e.on))) w:=fun e he hbd=>hg e.on (Nat.lt_trans (hback i o ho e he) him') (hall e he hbd)
    rw [if_pos (by simp [Region.wanted,q2])];refine hstep i o a w K (fun j=>l.getD j false=true) hall hcl him' ho hb hoff hpre (hcj i (by simp [hil] at hli ⊢;exact hli)) (fun v w' hb' hef hcs hgi=>?_);have hdlt:d i<a.tmps.size:=(by rw [hoff.1];exact hlt i him')
    have hset:∀ j,(l.setIfInBounds i true).getD j false=if j=i then true else l.getD j false:=fun j=>by
     by_cases e:j=i
     ·subst e;simp [hil]
     ·rw [if_neg e];simp [Array.getElem?_setIfInBounds_ne (fun e'=>e (Eq.symm e'))]
    refine hK _ _ ⟨hsz,.inl ⟨by rw [hset,if_neg (fun e=>him e.symm)];exact h1,htrans _ _ hb hb',?_,fun j hlj=>(by rw [hset] at hlj;split at hlj;(cases hlj);(rename_i hji;exact hcs j hji (fun e2=>by rw [e2] at hlj;cases hlj) (hcj j hlj))),fun j hj hlj=>?_⟩⟩
    ·rw [q1];refine ⟨by rw [size_put];exact hoff.1,hoff.2.1,fun t ht=>?_⟩;rw [<- hoff.2.2 t ht]
     simp [Act.put,Array.getElem?_setIfInBounds_ne (ht i him')]
    ·rw [q1]
     by_cases e:j=i
     ·subst e;rw [eval_put_same hdlt];exact hgi
     ·rw [eval_put_ne (fun e'=>e (hinj _ _ hj him' e'.symm))];rw [hset,if_neg e] at hlj;exact hG _ _ _ _ _ e hb hef (hg j hj hlj)
  ·have:=h i hi
   simp [hil] at hli this
   rw [this] at hli;cases hli
theorem wp_region_dsA {P:Program} {ops:Array Oper} {Q:Exit->Act->World->Prop} {id:Nat} {a0:Act} {W:World} (ds:List Nat) (r:Nat) (G:Nat->Value->World->Prop) (Rel:World->World->Prop) (Eff:Nat->World->World->Prop) (C:Nat->World->Prop) (hC0:∀ j,C j W.drew) (hrefl:Rel W W.drew) (htrans:∀ w w',Rel W w->Rel w w'->Rel W w')
 (hm:P.follows .mixedOrders=true) (hc:chkOpsA ops ds r=true) (hlt:∀ t∈ds,t<a0.tmps.size)
 (hG:∀ j i v w w',j≠i->Rel W w->Eff i w w'->G j v w->G j v w')
 (hstep:∀ (i:Nat) (o:Oper) (a:Act) (w:World) (K:Act->World->Prop) (D:Nat->Prop),(∀ e∈o.after,Region.binds .any e=true->D e.on)->(∀ i' o',ops[i']? =some o'->D i'->∀ e∈o'.after,Region.binds .any e=true->D e.on)->i<ds.length->ops[i]? =some o->Rel W w->(∀ t,t∉ds->a.eval (.tmp t)=a0.eval (.tmp t))->(∀ e∈o.after,Region.binds .any e=true->G e.on (a.eval (.tmp (ds.getD e.on 0))) w)->C i w->(∀ v w',Rel w w'->Eff i w w'->(∀ j,j≠i->¬ D j->C j w->C j w')->G i v w'->K (a.put o.dst v) w')->o.wp P a w K Q)
 (hlast:∀ (o:Oper) (a:Act) (w:World),ops[ds.length]? =some o->Rel W w->a.defers=a0.defers->a.tmps=ds.foldl (fun tm t=>tm.setIfInBounds t (a.tmps.getD t undef)) a0.tmps->(∀ t,t∉ds->a.eval (.tmp t)=a0.eval (.tmp t))->(∀ j,j<ds.length->G j (a.eval (.tmp (ds.getD j 0))) w)->∃ v w',(execOp a.eval o).run P w=.ok (.value v) w'/\Q .normal (a.put (some r) v) w'):
 (Code.region id ops true).wp P Q a0 W:=by
 simp only [chkOpsA,Bool.and_eq_true,beq_iff_eq,List.all_eq_true,List.mem_range,decide_eq_true_eq] at hc;obtain ⟨⟨⟨⟨c1,c2⟩,c3⟩,c4⟩,c5⟩:=hc
 have hout:∀ t,t∉ds->∀ j,j<ds.length->ds.getD j 0≠t:=fun t ht j hj e=>ht (by
  rw [<- e,List.getD_eq_getElem?_getD,List.getElem?_eq_getElem hj];exact List.getElem_mem _)
 have hmem:∀ j,j<ds.length->ds.getD j 0∈ds:=fun j hj=>by
  rw [List.getD_eq_getElem?_getD,List.getElem?_eq_getElem hj];exact List.getElem_mem _
 refine wp_region_madeA ds.length r (fun j=>ds.getD j 0) G Rel Eff C hC0 hrefl htrans hm c1 ?back ?hd ?inj (fun i hi=>hlt _ (hmem i hi)) ?hl hG ?step ?last
 case back=>
  intro i o ho e he;have hi:i<ops.size:=(Array.getElem?_eq_some_iff.1 ho).1;have:=c2 i hi;rw [ho] at this;simp only [Array.all_eq_true_iff_forall_mem,decide_eq_true_eq] at this;exact this e he
 case hd=>
  intro i o hi ho;have:=c3 i hi;rw [ho] at this;simp only [Bool.and_eq_true,decide_eq_true_eq,Option.isNone_iff_eq_none] at this;exact this
 case inj=>
  intro i j hi hj e;simp only [List.getD_eq_getElem?_getD,List.getElem?_eq_getElem hi,List.getElem?_eq_getElem hj,Option.getD_some] at e;exact (List.getElem_inj c5).1 e
 case hl=>
  intro o ho;rw [ho] at c4;simp only [Bool.and_eq_true,decide_eq_true_eq,Option.isNone_iff_eq_none,List.all_eq_true,List.mem_range] at c4;refine ⟨c4.1.1,c4.1.2,fun j hj=>?_⟩;obtain ⟨e,he,h⟩:=Array.any_eq_true'.1 (c4.2 j hj);rw [Bool.and_eq_true,beq_iff_eq] at h;exact ⟨e,he,h.1,h.2⟩
 case step=>
  intro i o a w K D hD hcl hi ho hb hoff hpre hc hK;exact hstep i o a w K D hD hcl hi ho hb (fun t ht=>hoff.eval (hout t ht)) hpre hc hK
 case last=>
  intro o a w ho hb hoff hpre;refine hlast o a w ho hb hoff.2.1 (frame_of ds hoff.1 (fun t ht=>hoff.2.2 t (hout t ht))) (fun t ht=>hoff.eval (hout t ht)) hpre
theorem wp_region_madeS {P:Program} {ops:Array Oper} {Q:Exit->Act->World->Prop} {id:Nat} {a0:Act} {W:World} (m:Nat) (d:Nat->Nat) (G:Nat->Value->World->Prop) (Rel:World->World->Prop) (Eff:Nat->World->World->Prop) (C:Nat->World->Prop) (hC0:∀ j,C j W.drew) (hrefl:Rel W W.drew) (htrans:∀ w w',Rel W w->Rel w w'->Rel W w')
 (hm:P.follows .mixedOrders=true) (hlen:ops.size=m+1) (hback:∀ (i:Nat) (o:Oper),ops[i]? =some o->∀ e∈o.after,e.on<i)
 (hd:∀ i o,i<m->ops[i]? =some o->o.dst=some (d i)/\o.guard=none) (hinj:∀ i j,i<m->j<m->d i=d j->i=j) (hlt:∀ i,i<m->d i<a0.tmps.size)
 (hl:∀ o,ops[m]? =some o->o.dst=none/\o.guard=none/\∀ j,j<m->∃ e∈o.after,e.on=j/\Region.binds .any e=true)
 (hG:∀ j i v w w',j≠i->Rel W w->Eff i w w'->G j v w->G j v w')
 (hstep:∀ i o a w (K:Act->World->Prop) (D:Nat->Prop),(∀ e∈o.after,Region.binds .any e=true->D e.on)->(∀ i' o',ops[i']? =some o'->D i'->∀ e∈o'.after,Region.binds .any e=true->D e.on)->i<m->ops[i]? =some o->Rel W w->Off d m a a0->(∀ e∈o.after,Region.binds .any e=true->G e.on (a.eval (.tmp (d e.on))) w)->C i w->(∀ v w',Rel w w'->Eff i w w'->(∀ j,j≠i->¬ D j->C j w->C j w')->G i v w'->K (a.put o.dst v) w')->o.wp P a w K Q)
 (hlast:∀ o a w,ops[m]? =some o->Rel W w->Off d m a a0->(∀ j,j<m->G j (a.eval (.tmp (d j))) w)->∃ w',(execOp a.eval o).run P w=.ok .skip w'/\Q .normal a w'):
 (Code.region id ops true).wp P Q a0 W:=by
 refine wp_region_inv (Inv:=fun l a w=>(l.size=ops.size/\∀ i' o',ops[i']? =some o'->l.getD i' false=true->∀ e∈o'.after,Region.binds .any e=true->l.getD e.on false=true)/\((l.getD m false=false/\Rel W w/\Off d m a a0/\(∀ j,l.getD j false=false->C j w)/\∀ j,j<m->l.getD j false=true->G j (a.eval (.tmp (d j))) w)\/((∀ j,j<ops.size->l.getD j false=true)/\Q .normal a w))) hm hback (fun l a w h=>h.1.1) ?step ?done ?h0
 case done=>
  rintro l a w ⟨⟨hs,_⟩,h⟩ hall
  rcases h with ⟨h1,_⟩|⟨_,h⟩
  ·rw [hall m (by omega)] at h1;cases h1
  ·exact h
 case h0=>
  refine ⟨⟨by simp,fun i' o' _ hd'=>by rw [Array.getD_eq_getD_getElem?,Array.getElem?_replicate] at hd';split at hd'<;>cases hd'⟩,.inl ⟨by rw [Array.getD_eq_getD_getElem?,Array.getElem?_replicate];split<;>rfl,hrefl,⟨rfl,rfl,fun _ _=>rfl⟩,fun j _=>hC0 j,fun j hj hlj=>?_⟩⟩
  simp at hlj
  have:j<ops.size:=by omega
  simp [this] at hlj
 case step=>
  rintro l a w i o ⟨⟨hs,hcl⟩,h⟩ ho hli hall;have hi:i<ops.size:=(Array.getElem?_eq_some_iff.1 ho).1
  have hil:i<l.size:=by omega
  rcases h with ⟨h1,hb,hoff,hcj,hg⟩|⟨h,_⟩
  ·refine wpOp_step ho (fun K hK=>?_)
   have hset0:∀ j,(l.setIfInBounds i true).getD j false=if j=i then true else l.getD j false:=fun j=>by
    by_cases e:j=i
    ·subst e;simp [hil]
    ·rw [if_neg e];simp [Array.getElem?_setIfInBounds_ne (fun e'=>e (Eq.symm e'))]
   have hsz:(l.setIfInBounds i true).size=ops.size/\∀ i' o',ops[i']? =some o'->(l.setIfInBounds i true).getD i' false=true->∀ e∈o'.after,Region.binds .any e=true->(l.setIfInBounds i true).getD e.on false=true:=by
    refine ⟨by simpa using hs,fun i' o' ho' hd' e he hbd=>?_⟩;rw [hset0] at hd' ⊢
    split
    ·rfl
    ·split at hd'
     ·rename_i _ hii
      subst hii;rw [ho] at ho'
      injection ho' with ho'
      subst ho';exact hall e he hbd
     ·exact hcl i' o' ho' hd' e he hbd
   by_cases him:i=m
   ·subst him;obtain ⟨q1,q2,q3⟩:=hl o ho
    have hallj:∀ j,j<i->l.getD j false=true:=fun j hj=>by
     obtain ⟨e,he,rfl,hbd⟩:=q3 j hj;exact hall e he hbd
    obtain ⟨w',hrun,hq⟩:=hlast o a w ho hb hoff (fun j hj=>hg j hj (hallj j hj));rw [if_pos (by simp [Region.wanted,q2])];unfold Oper.wp;rw [hrun];have hput:a.put o.dst undef=a:=(by rw [q1];rfl);refine hK _ _ ⟨hsz,.inr ⟨fun j hj=>?_,?_⟩⟩
    ·by_cases e:j=i
     ·subst e;simp [hil]
     ·have:=hallj j (by omega);have hjl:j<l.size:=(by omega);have hset:(l.setIfInBounds i true).getD j false=l.getD j false:=(by simp [Array.getElem?_setIfInBounds_ne (fun e'=>e (Eq.symm e'))]);rw [hset];exact this
    ·first|exact hq|(rw [hput];exact hq)
   ·have him':i<m:=(by omega);obtain ⟨q1,q2⟩:=hd i o him' ho
    have hpre:∀ e∈o.after,Region.binds .any e=true->G e.on (a.eval (.tmp (d e.on))) w:=fun e he hbd=>hg e.on (Nat.lt_trans (hback i o ho e he) him') (hall e he hbd)
    rw [if_pos (by simp [Region.wanted,q2])];refine hstep i o a w K (fun j=>l.getD j false=true) hall hcl him' ho hb hoff hpre (hcj i (by simp [hil] at hli ⊢;exact hli)) (fun v w' hb' hef hcs hgi=>?_);have hdlt:d i<a.tmps.size:=(by rw [hoff.1];exact hlt i him')
    have hset:∀ j,(l.setIfInBounds i true).getD j false=if j=i then true else l.getD j false:=fun j=>by
     by_cases e:j=i
     ·subst e;simp [hil]
     ·rw [if_neg e];simp [Array.getElem?_setIfInBounds_ne (fun e'=>e (Eq.symm e'))]
    refine hK _ _ ⟨hsz,.inl ⟨by rw [hset,if_neg (fun e=>him e.symm)];exact h1,htrans _ _ hb hb',?_,fun j hlj=>(by rw [hset] at hlj;split at hlj;(cases hlj);(rename_i hji;exact hcs j hji (fun e2=>by rw [e2] at hlj;cases hlj) (hcj j hlj))),fun j hj hlj=>?_⟩⟩
    ·rw [q1];refine ⟨by rw [size_put];exact hoff.1,hoff.2.1,fun t ht=>?_⟩;rw [<- hoff.2.2 t ht]
     simp [Act.put,Array.getElem?_setIfInBounds_ne (ht i him')]
    ·rw [q1]
     by_cases e:j=i
     ·subst e;rw [eval_put_same hdlt];exact hgi
     ·rw [eval_put_ne (fun e'=>e (hinj _ _ hj him' e'.symm))];rw [hset,if_neg e] at hlj;exact hG _ _ _ _ _ e hb hef (hg j hj hlj)
  ·have:=h i hi
   simp [hil] at hli this
   rw [this] at hli;cases hli
theorem wp_region_dsS {P:Program} {ops:Array Oper} {Q:Exit->Act->World->Prop} {id:Nat} {a0:Act} {W:World} (ds:List Nat) (G:Nat->Value->World->Prop) (Rel:World->World->Prop) (Eff:Nat->World->World->Prop) (C:Nat->World->Prop) (hC0:∀ j,C j W.drew) (hrefl:Rel W W.drew) (htrans:∀ w w',Rel W w->Rel w w'->Rel W w')
 (hm:P.follows .mixedOrders=true) (hc:chkOps ops ds=true) (hlt:∀ t∈ds,t<a0.tmps.size)
 (hG:∀ j i v w w',j≠i->Rel W w->Eff i w w'->G j v w->G j v w')
 (hstep:∀ (i:Nat) (o:Oper) (a:Act) (w:World) (K:Act->World->Prop) (D:Nat->Prop),(∀ e∈o.after,Region.binds .any e=true->D e.on)->(∀ i' o',ops[i']? =some o'->D i'->∀ e∈o'.after,Region.binds .any e=true->D e.on)->i<ds.length->ops[i]? =some o->Rel W w->(∀ t,t∉ds->a.eval (.tmp t)=a0.eval (.tmp t))->(∀ e∈o.after,Region.binds .any e=true->G e.on (a.eval (.tmp (ds.getD e.on 0))) w)->C i w->(∀ v w',Rel w w'->Eff i w w'->(∀ j,j≠i->¬ D j->C j w->C j w')->G i v w'->K (a.put o.dst v) w')->o.wp P a w K Q)
 (hlast:∀ (o:Oper) (a:Act) (w:World),ops[ds.length]? =some o->Rel W w->a.defers=a0.defers->a.tmps=ds.foldl (fun tm t=>tm.setIfInBounds t (a.tmps.getD t undef)) a0.tmps->(∀ t,t∉ds->a.eval (.tmp t)=a0.eval (.tmp t))->(∀ j,j<ds.length->G j (a.eval (.tmp (ds.getD j 0))) w)->∃ w',(execOp a.eval o).run P w=.ok .skip w'/\Q .normal a w'):
 (Code.region id ops true).wp P Q a0 W:=by
 simp only [chkOps,Bool.and_eq_true,beq_iff_eq,List.all_eq_true,List.mem_range,decide_eq_true_eq] at hc;obtain ⟨⟨⟨⟨c1,c2⟩,c3⟩,c4⟩,c5⟩:=hc
 have hout:∀ t,t∉ds->∀ j,j<ds.length->ds.getD j 0≠t:=fun t ht j hj e=>ht (by
  rw [<- e,List.getD_eq_getElem?_getD,List.getElem?_eq_getElem hj];exact List.getElem_mem _)
 have hmem:∀ j,j<ds.length->ds.getD j 0∈ds:=fun j hj=>by
  rw [List.getD_eq_getElem?_getD,List.getElem?_eq_getElem hj];exact List.getElem_mem _
 refine wp_region_madeS ds.length (fun j=>ds.getD j 0) G Rel Eff C hC0 hrefl htrans hm c1 ?back ?hd ?inj (fun i hi=>hlt _ (hmem i hi)) ?hl hG ?step ?last
 case back=>
  intro i o ho e he;have hi:i<ops.size:=(Array.getElem?_eq_some_iff.1 ho).1;have:=c2 i hi;rw [ho] at this;simp only [Array.all_eq_true_iff_forall_mem,decide_eq_true_eq] at this;exact this e he
 case hd=>
  intro i o hi ho;have:=c3 i hi;rw [ho] at this;simp only [Bool.and_eq_true,decide_eq_true_eq,Option.isNone_iff_eq_none] at this;exact this
 case inj=>
  intro i j hi hj e;simp only [List.getD_eq_getElem?_getD,List.getElem?_eq_getElem hi,List.getElem?_eq_getElem hj,Option.getD_some] at e;exact (List.getElem_inj c5).1 e
 case hl=>
  intro o ho;rw [ho] at c4;simp only [Bool.and_eq_true,Option.isNone_iff_eq_none,List.all_eq_true,List.mem_range] at c4;refine ⟨c4.1.1,c4.1.2,fun j hj=>?_⟩;obtain ⟨e,he,h⟩:=Array.any_eq_true'.1 (c4.2 j hj);rw [Bool.and_eq_true,beq_iff_eq] at h;exact ⟨e,he,h.1,h.2⟩
 case step=>
  intro i o a w K D hD hcl hi ho hb hoff hpre hc hK;exact hstep i o a w K D hD hcl hi ho hb (fun t ht=>hoff.eval (hout t ht)) hpre hc hK
 case last=>
  intro o a w ho hb hoff hpre;refine hlast o a w ho hb hoff.2.1 (frame_of ds hoff.1 (fun t ht=>hoff.2.2 t (hout t ht))) (fun t ht=>hoff.eval (hout t ht)) hpre
end Go.Proofs.YtkeoflnmbcdmfaaGreatDoor
