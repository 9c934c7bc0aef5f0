import Derived.Test.YtkeoflnmbcdmfaaGreatDoorSqNum
set_option maxRecDepth 8000
namespace Go.Proofs.YtkeoflnmbcdmfaaGreatDoor
open Go.ChangeShapes Go.WideShapes Go.ChangeAt Go.RowKit
theorem lit_cell {w w2:World} {cs:Array Value} {t:TypeId} {G:Nat} (hg:(w.alloc (.cells cs t)).grownBy w2 (some G)) (hG:G<w.heap.size) (i:Nat):w2.cell? ⟨w.heap.size,i,none⟩=cs[i]? :=by
 have h:=hg.block w.heap.size (by simp) (fun e=>by injection e with e;omega);exact cell_of_row _ _ i cs t (0,0) (h.trans (heap_alloc_new w _))
theorem only_alloc {a w:World} {row:Option Nat} (h:a.grownBy w row) (o:Obj):a.grownBy (w.alloc o) row:=
 ⟨h.os,h.tape,h.output,Nat.le_trans h.size (by simp),fun i hi hne=>(Below.heap_alloc w o i (Nat.lt_of_lt_of_le hi h.size)).trans (h.block i hi hne)⟩
theorem only_set {a w:World} {row:Option Nat} (h:a.grownBy w row) {p:Addr} (hp:a.heap.size<=p.block) (u:Value):a.grownBy (w.setCell p u) row:=
 ⟨h.os,h.tape,h.output,by simpa [World.setCell] using h.size,fun i hi hne=>(Below.heap_setCell w p u i (by omega)).trans (h.block i hi hne)⟩
theorem grown_of_alloc {w w2:World} {o:Obj} {G:Nat} (h:(w.alloc o).grownBy w2 (some G)):w.grownBy w2 (some G):=(only_alloc (World.grownBy.refl w _) o).trans h
theorem Ow.keptG {w w':World} {lo G:Nat} {A:Option Addr} {n c:Nat} {xs:List Int} (h:Ow w lo A n c xs) (hg:w.grownBy w' (some G)) (hG:G<lo):Ow w' lo A n c xs:=by
 refine World.ownsRow.kept h hg ?_
 cases e:(Value.slice A n c).ownBlock with
 |none=>exact .inl rfl
 |some g=>
  refine .inr fun he=>?_
  have h1:=h.own_lo g e
  injection he with he
  omega
theorem Rdr.more {w:World} {B G P P':Nat} (h:Rdr w B G P) (hP:P<=P'):Rdr w B G P':=by
 obtain ⟨A,n,c,p,bs,h1,h2,h3,h4,h5⟩:=h;exact ⟨A,n,c,p,bs,h1,h2,by omega,h4,h5⟩
theorem Rdr.lt {w:World} {B G P:Nat} (h:Rdr w B G P):G<w.heap.size:=by
 obtain ⟨A,n,c,p,bs,h1,_⟩:=h;exact cell_lt (p:=⟨G,0,none⟩) (cell_of_row _ _ 0 _ _ _ h1)
theorem Rdr.alloc {w:World} {B G P:Nat} (h:Rdr w B G P) (hB:B<=w.heap.size) (o:Obj):Rdr (w.alloc o) B G P:=by
 have hlt:=h.lt;obtain ⟨A,n,c,p,bs,h1,h2,h3,h4,h5⟩:=h;exact ⟨A,n,c,p,bs,(Below.heap_alloc w o G hlt).trans h1,h2,h3,h4,h5.below ((Below.refl _ _).alloc hB o)⟩
theorem Rdr.set_ {w:World} {B G P:Nat} (h:Rdr w B G P) {q:Addr} (hB:B<=q.block) (hne:q.block≠G) (u:Value):Rdr (w.setCell q u) B G P:=by
 obtain ⟨A,n,c,p,bs,h1,h2,h3,h4,h5⟩:=h;exact ⟨A,n,c,p,bs,(Below.heap_setCell w q u G (fun e=>hne e.symm)).trans h1,h2,h3,h4,h5.below ((Below.refl _ _).setCell hB u)⟩
theorem Rdr.below {w w':World} {B G P:Nat} (h:Rdr w B G P) (hb:Below w.heap.size w w') (hB:B<=w.heap.size):Rdr w' B G P:=by
 have hlt:=h.lt;obtain ⟨A,n,c,p,bs,h1,h2,h3,h4,h5⟩:=h;exact ⟨A,n,c,p,bs,(hb.block G hlt).trans h1,h2,h3,h4,h5.below (hb.mono hB)⟩
def DrewInt (w:World) (B G P:Nat) (Q:Int->Prop) (e:Ending) (w':World):Prop:=∃ v:Int,e=.returned (.int .i64 v)/\Q v/\Rdr w' B G P/\w.grownBy w' (some G)
def DrewBool (w:World) (B G P:Nat) (Q:Bool->Prop) (e:Ending) (w':World):Prop:=∃ v:Bool,e=.returned (.bool v)/\Q v/\Rdr w' B G P/\w.grownBy w' (some G)
theorem specOpen (A:Option Addr) (c n:Nat) (bs:List Int) (w:World) (h:RdB w w.heap.size A n bs) (hc:n<=c) (hm:c<=9223372036854775807):
 Calls Tryz.prog 57 #[.slice A n c] w fun e w'=>e=.returned (.pointer (some ⟨w.heap.size,0,none⟩))/\Rdr w' w.heap.size w.heap.size 0/\Below w.heap.size w w':=by
 have hal:∀ (m:Nat) (A':Option Addr) (c':Nat) (bs':List Int),m<=2000->RdB w w.heap.size A' m bs'->Rdr (w.alloc (.cells #[.slice A' m c',.int .i64 0] 115)) w.heap.size w.heap.size 0:=fun m A' c' bs' hm' hr'=>
  ⟨A',m,c',0,bs',heap_alloc_new w _,by omega,by omega,hm',hr'.below ((Below.refl _ _).alloc (Nat.le_refl _) _)⟩
 have Hal:=Lib.hid hal;clear hal
 by_cases hn:n<=2000
 ·go_enter Tryz.func57,Tryz.ntmps57
  go_wp2
  go_ret
  exact ⟨rfl,Hal.out _ _ _ _ hn h,(Below.refl _ _).alloc (Nat.le_refl _) _⟩
 ·have h2:RdB w w.heap.size A 2000 (bs.take 2000):=by
   have e:∀ k,k<2000->nth (bs.take 2000) k=nth bs k:=fun k hk=>by
    simp [nth,List.getD_eq_getElem?_getD,hk]
   refine ⟨by rw [List.length_take,h.1];omega,fun _=>?_,fun k hk=>by rw [e k hk];exact h.2.2 k (by omega)⟩;obtain ⟨b,off,he,hb,hcc⟩:=h.2.1 (by omega);exact ⟨b,off,he,hb,fun k hk=>by rw [e k hk];exact hcc k (by omega)⟩
  go_enter Tryz.func57,Tryz.ntmps57
  go_wp2
  go_ret
  exact ⟨rfl,Hal.out _ _ _ _ (by omega) h2,(Below.refl _ _).alloc (Nat.le_refl _) _⟩
theorem odd_any (B G P:Nat) (m:Int) (w:World) (h:Rdr w B G P) (hBG:B<=G) (hP:P<=1000000) (hm:m<=1000000):
 Calls Tryz.prog 111 #[.pointer (some ⟨G,0,none⟩),.int .i64 m] w (DrewBool w B G (P+1) (fun b=>m<=0->b=false)):=by
 by_cases h0:0<m
 ·go_enter Tryz.func111,Tryz.ntmps111
  go_wp2_with (go_at_call 90;refine (pick_any B G P _ _ h hBG (by omega)).mono ?_;rintro e w1 ⟨v,rfl,hv,hr1,hg1⟩)
  go_ret
  exact ⟨_,rfl,fun hh=>by omega,hr1,hg1⟩
 ·go_enter Tryz.func111,Tryz.ntmps111
  go_wp2
  go_ret
  refine ⟨false,rfl,?_,h.more (by omega),World.grownBy.refl _ _⟩
  simp
theorem l20Size_any (B G P:Nat) (m:Int) (w:World) (h:Rdr w B G P) (hBG:B<=G) (hP:P<=1000000) (hm:m<=1000000):
 Calls Tryz.prog 105 #[.pointer (some ⟨G,0,none⟩),.int .i64 m] w (DrewInt w B G (P+2) (fun s=> -1<=s/\s<=5/\(m<=0->2<=s/\s<=4))):=by
 go_enter Tryz.func105,Tryz.ntmps105
 go_wp2_with fail
 refine (odd_any B G P _ _ h hBG hP hm).mono ?_;rintro e w1 ⟨b,rfl,hb,hr1,hg1⟩;have hsz:=hr1.lt;have hlt:=h.lt
 have hB1:B<=w1.heap.size:=by omega
 cases b
 ·go_wp2_with fail
  refine (pick_any B G (P+1) _ _ (hr1.alloc hB1 _) hBG (by omega)).mono ?_;rintro e w2 ⟨v,rfl,⟨v0,v1,_⟩,hr2,hg2⟩
  have hc:=fun i=>lit_cell hg2 hsz i
  have Hc:=Lib.hid hc;clear hc;have hg:=hg1.trans (grown_of_alloc hg2)
  have hv:v=0\/v=1\/v=2\/v=3\/v=4:=by have:=v1 (by omega);omega
  clear v0 v1
  rcases hv with rfl|rfl|rfl|rfl|rfl
  ·have hc:=Hc.out 0
   simp at hc
   go_wp2
   go_ret
   exact ⟨_,rfl,by omega,hr2,hg⟩
  ·have hc:=Hc.out 1
   simp at hc
   go_wp2
   go_ret
   exact ⟨_,rfl,by omega,hr2,hg⟩
  ·have hc:=Hc.out 2
   simp at hc
   go_wp2
   go_ret
   exact ⟨_,rfl,by omega,hr2,hg⟩
  ·have hc:=Hc.out 3
   simp at hc
   go_wp2
   go_ret
   exact ⟨_,rfl,by omega,hr2,hg⟩
  ·have hc:=Hc.out 4
   simp at hc
   go_wp2
   go_ret
   exact ⟨_,rfl,by omega,hr2,hg⟩
 ·have hm0:¬ m<=0:=fun hh=>by simpa using hb hh
  go_wp2_with fail
  refine (pick_any B G (P+1) _ _ (hr1.alloc hB1 _) hBG (by omega)).mono ?_;rintro e w2 ⟨v,rfl,⟨v0,v1,_⟩,hr2,hg2⟩
  have hc:=fun i=>lit_cell hg2 hsz i
  have Hc:=Lib.hid hc;clear hc;have hg:=hg1.trans (grown_of_alloc hg2)
  have hv:v=0\/v=1\/v=2:=by have:=v1 (by omega);omega
  clear v0 v1
  rcases hv with rfl|rfl|rfl
  ·have hc:=Hc.out 0
   simp at hc
   go_wp2
   go_ret
   exact ⟨_,rfl,by omega,hr2,hg⟩
  ·have hc:=Hc.out 1
   simp at hc
   go_wp2
   go_ret
   exact ⟨_,rfl,by omega,hr2,hg⟩
  ·have hc:=Hc.out 2
   simp at hc
   go_wp2
   go_ret
   exact ⟨_,rfl,by omega,hr2,hg⟩
def manyOf (size:Int):Int:=if size=2 then 2 else if size=3 then 12 else 576
theorem sols_many {size:Int} (h2:2<=size) (h4:size<=4):((sols size (size*size).toNat (zeros (size*size).toNat) 0).length:Int)=manyOf size:=by
 have:size=2\/size=3\/size=4:=by omega
 rcases this with rfl|rfl|rfl
 ·have e:((2:Int)*2).toNat=4:=rfl;rw [e,sols2];rfl
 ·have e:((3:Int)*3).toNat=9:=rfl;rw [e,sols3];rfl
 ·have e:((4:Int)*4).toNat=16:=rfl;rw [e,sols4];rfl
theorem sqn_mem {size number:Int} (h2:2<=size) (h4:size<=4) (h0:0<=number) (h1:number<manyOf size):sqn size number∈sols size (size*size).toNat (zeros (size*size).toNat) 0:=by
 have hs:inr size 2 4=true:=by simp [inr,h2,h4]
 have hl:number.toNat<(sols size (size*size).toNat (zeros (size*size).toNat) 0).length:=by
  have:=sols_many h2 h4;omega
 unfold sqn;rw [if_pos ⟨hs,h0⟩,List.getElem?_eq_getElem hl,Option.getD_some];exact List.getElem_mem hl
theorem many_facts (size:Int):2<=manyOf size/\manyOf size<=576:=by
 unfold manyOf;split
 ·omega
 ·split<;>omega
def DrewSolved (w:World) (B G P:Nat) (size:Int) (e:Ending) (w':World):Prop:=
 ∃ A n c xs,e=.returned (.slice A n c)/\Ow w' w.heap.size A n c xs/\(n:Int)=size*size/\xs∈sols size n (zeros n) 0/\Rdr w' B G P/\w.grownBy w' (some G)
theorem l20Solved_any (B G P:Nat) (size:Int) (w:World) (h:Rdr w B G P) (hBG:B<=G) (hP:P<=1000000) (h2:2<=size) (h4:size<=4):
 Calls Tryz.prog 106 #[.pointer (some ⟨G,0,none⟩),.int .i64 size] w (DrewSolved w B G (P+2) size):=by
 have hGlt:=h.lt
 have hBw:B<=w.heap.size:=by omega
 obtain ⟨m0,m1⟩:=many_facts size
 have key:∀ (v:Int) (w1:World) (e:Ending) (w2:World),0<=v->v<manyOf size->w.grownBy w1 (some G)->Rdr w1 B G (P+2)->RetSl w1 (sqn size v) e w2->DrewSolved w B G (P+2) size e w2:=by
  intro v w1 e w2 hv0 hv1 hg1 hr1 ⟨A,c,he,ho,hb⟩;have hm:=sqn_mem h2 h4 hv0 hv1;have hl:=sols_length size _ _ _ _ hm;rw [zeros_length] at hl;obtain ⟨q4,q16⟩:=sq_bd h2 h4;refine ⟨A,_,c,_,he,ho.mono hg1.size,by rw [hl];exact Int.toNat_of_nonneg (by omega),by rw [hl];exact hm,hr1.below hb (by have:=hg1.size;omega),below_grown hg1 hb⟩
 have Key:=Lib.hid key;clear key
 have hsz:size=2\/size=3\/size=4:=by omega
 rcases hsz with rfl|rfl|rfl
 all_goals
  go_enter Tryz.func106,Tryz.ntmps106
  go_wp2_with fail
  refine (pick_any B G P _ _ (h.alloc hBw _) hBG (by omega)).mono ?_;rintro e w1 ⟨v,rfl,⟨v0,v1,_⟩,hr1,hg1⟩;have hv1:=v1 (by omega);clear v1
  go_wp2_with fail
  refine (pick_any B G (P+1) _ _ hr1 hBG (by omega)).mono ?_;rintro e w2 ⟨u,rfl,⟨u0,u1,_⟩,hr2,hg2⟩;have hu1:=u1 (by omega);clear u1;have hg:=(grown_of_alloc hg1).trans hg2
  go_wp2_with fail
  refine (specSquareNumber _ _ _ (by omega) (by omega)).mono ?_;intro e w3 hp;have hd:=Key.out _ _ _ _ (by omega) (by simp only [manyOf];omega) hg hr2 hp;obtain ⟨A,n,c,xs,rfl,hrest⟩:=hd
  go_wp2
  go_ret
  exact ⟨A,n,c,xs,rfl,hrest⟩
end Go.Proofs.YtkeoflnmbcdmfaaGreatDoor
