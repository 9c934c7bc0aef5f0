import Derived.Test.YtkeoflnmbcdmfaaGreatDoorPz
import Derived.Deep.AppendLies
import Derived.Deep.RegionLaw
import Derived.Test.YtkeoflnmbcdmfaaGreatDoorSearch
import Derived.Test.YtkeoflnmbcdmfaaGreatDoorR4P
import Derived.Test.YtkeoflnmbcdmfaaGreatDoorQ4S
import Derived.Test.YtkeoflnmbcdmfaaGreatDoorDrawH
import Derived.Test.YtkeoflnmbcdmfaaGreatDoorC1
import Derived.Test.YtkeoflnmbcdmfaaGreatDoorBase
import Derived.Test.YtkeoflnmbcdmfaaGreatDoorSq
import Derived.Test.YtkeoflnmbcdmfaaGreatDoorC1L
import Derived.Deep.RegionHeld3
import Derived.Test.YtkeoflnmbcdmfaaGreatDoorClash
set_option maxRecDepth 8000
namespace Go.Proofs.YtkeoflnmbcdmfaaGreatDoor
open Go.ChangeShapes Go.WideShapes Go.ChangeAt Go.RowKit
theorem ints_info:(Tryz.prog.info? 23).map (fun i=>(i.zero,i.size,i.bytes))=some (some (.slice none 0 0),1,24):=by kernel_rfl
def Rows_ (w:World) (lo P:Nat) (v:Value) (Ls:List (List Int)) (n:Nat):Prop:=
 ∃ A c vs,v=.slice A Ls.length c/\w.ownsRow lo 23 1 v Ls.length vs/\v.ownBlock≠some P/\∀ i,i<Ls.length->∃ A' c',vs[i]? =some (.slice A' n c')/\Ow w lo A' n c' (Ls.getD i [])/\∀ g,(Value.slice A' n c').ownBlock=some g->v.ownBlock≠some g/\g≠P
def Out_ (w:World) (P:Nat) (v:Value):Prop:=w.heap[P]? =some (.cells #[v] 70)
theorem Out_.cell {w:World} {P:Nat} {v:Value} (h:Out_ w P v):w.cell? ⟨P,0,none⟩=some v:=cell_of_row _ _ 0 _ _ (0,0) h
theorem Out_.free {w:World} {P:Nat} {v:Value} (h:Out_ w P v):w.frozen? ⟨P,0,none⟩=false:=frozen_of_row w P 0 _ _ h
theorem Out_.lt {w:World} {P:Nat} {v:Value} (h:Out_ w P v):P<w.heap.size:=(Array.getElem?_eq_some_iff.1 h).1
def Chg5 (w w':World) (P:Nat) (v v':Value):Prop:=w'.os=w.os/\w'.tape=w.tape/\w'.output=w.output/\w.heap.size<=w'.heap.size/\(∀ k,k<w.heap.size->k≠P->v.ownBlock≠some k->w'.heap[k]? =w.heap[k]?)/\∀ g,v'.ownBlock=some g->v.ownBlock=some g\/w.heap.size<=g
theorem Chg5.refl (w:World) (P:Nat) (v:Value):Chg5 w w P v v:=⟨rfl,rfl,rfl,Nat.le_refl _,fun _ _ _ _=>rfl,fun _ h=>.inl h⟩
theorem Chg5.trans {w w1 w2:World} {P:Nat} {v v1 v2:Value} (h:Chg5 w w1 P v v1) (h2:Chg5 w1 w2 P v1 v2):Chg5 w w2 P v v2:=by
 obtain ⟨a1,a2,a3,a4,a5,a6⟩:=h;obtain ⟨b1,b2,b3,b4,b5,b6⟩:=h2;refine ⟨b1.trans a1,b2.trans a2,b3.trans a3,Nat.le_trans a4 b4,fun k hk hP hv=>?_,fun g hg=>?_⟩
 ·refine (b5 k (Nat.lt_of_lt_of_le hk a4) hP (fun e=>?_)).trans (a5 k hk hP hv)
  rcases a6 k e with h|h
  ·exact hv h
  ·omega
 ·rcases b6 g hg with h|h
  ·exact a6 g h
  ·exact .inr (Nat.le_trans a4 h)
theorem Chg5.ofBelow {w w':World} {P:Nat} {v:Value} (h:Below w.heap.size w w'):Chg5 w w' P v v:=⟨h.os,h.tape,h.output,h.size,fun k hk _ _=>h.block k hk,fun _ h=>.inl h⟩
theorem Chg5.cell {w w':World} {P:Nat} {v v':Value} (h:Chg5 w w' P v v') {b i:Nat} (hb:b<w.heap.size) (hP:b≠P) (hv:v.ownBlock≠some b):w'.cell? ⟨b,i,none⟩=w.cell? ⟨b,i,none⟩:=World.cell?_of_block (a:=⟨b,i,none⟩) (h.2.2.2.2.1 b hb hP hv)
theorem Chg5.rd {w w':World} {P:Nat} {v v':Value} {B:Nat} {A:Option Addr} {n:Nat} {xs:List Int} (h:Rd w B A n xs) (hc:Chg5 w w' P v v') (hB:B<=w.heap.size) (hne:∀ b off,A=some ⟨b,off,none⟩->b≠P/\v.ownBlock≠some b):Rd w' B A n xs:=
 ⟨h.1,fun hn=>by
   obtain ⟨b,off,e,hlt,hk⟩:=h.2 hn
   exact ⟨b,off,e,hlt,fun k hkn=>(hc.cell (by omega) (hne b off e).1 (hne b off e).2).trans (hk k hkn)⟩⟩
def tryV (fit:List Int->Bool) (rec:List Int->List (List Int)->List (List Int)) (g:List Int) (p most:Nat):Nat->Nat->List (List Int)->List (List Int)
 |0,_,Ls=>Ls
 |r+1,v,Ls=>if Ls.length<most then tryV fit rec g p most r (v+1) (if fit (g.set p (v:Int))=true then rec (g.set p (v:Int)) Ls else Ls) else Ls
def s5 (fit:List Int->Bool) (s most:Nat):Nat->List Int->Nat->List (List Int)->List (List Int)
 |0,g,_,Ls=>Ls++[g]
 |f+1,g,p,Ls=>if 0<nth g p then s5 fit s most f g (p+1) Ls else tryV fit (fun g' L'=>s5 fit s most f g' (p+1) L') g p most s 1 Ls
end Go.Proofs.YtkeoflnmbcdmfaaGreatDoor
set_option maxRecDepth 8000
namespace Go.Proofs.YtkeoflnmbcdmfaaGreatDoor
open Go.ChangeShapes Go.WideShapes Go.ChangeAt Go.RowKit
theorem rows_push {w W0 w3 w4:World} {P lo n:Nat} {v:Value} {Ls:List (List Int)} {vs:List Value} {A1:Option Addr} {c1 g' cap:Nat} {g:List Int} {o:Obj} (hb0:Below w.heap.size w W0) (ho:Out_ w P v) (hown:w.ownsRow lo 23 1 v Ls.length vs)
 (hin:∀ i,i<Ls.length->∃ A' c',vs[i]? =some (.slice A' n c')/\Ow w lo A' n c' (Ls.getD i [])/\∀ g,(Value.slice A' n c').ownBlock=some g->v.ownBlock≠some g/\g≠P) (hvP:v.ownBlock≠some P) (hlow:lo<=w.heap.size)
 (hbA:Below W0.heap.size W0 w3) (ho3:Ow w3 W0.heap.size A1 n c1 g) (h4:w4.ownsRow lo 23 1 (.slice (some ⟨g',0,none⟩) (Ls.length+1) cap) (Ls.length+1) (vs++[.slice A1 n c1])) (hg4:(w3.alloc o).grownBy w4 v.ownBlock) (hl4:v.ownBlock=some g'\/g'=(w3.alloc o).heap.size):
 Out_ (w4.setCell ⟨P,0,none⟩ (.slice (some ⟨g',0,none⟩) (Ls.length+1) cap)) P (.slice (some ⟨g',0,none⟩) (Ls.length+1) cap)/\Rows_ (w4.setCell ⟨P,0,none⟩ (.slice (some ⟨g',0,none⟩) (Ls.length+1) cap)) lo P (.slice (some ⟨g',0,none⟩) (Ls.length+1) cap) (Ls++[g]) n/\Chg5 w (w4.setCell ⟨P,0,none⟩ (.slice (some ⟨g',0,none⟩) (Ls.length+1) cap)) P v (.slice (some ⟨g',0,none⟩) (Ls.length+1) cap):=by
 have hB3:Below w.heap.size w w3:=hb0.trans (hbA.mono hb0.size);have hB4:Below w.heap.size w (w3.alloc o):=hB3.alloc hB3.size o;have hs0:=hb0.size;have hs3:=hbA.size;have hP:=ho.lt;have ho4:Out_ w4 P v:=(hg4.block P (by rw [World.size_alloc];omega) (fun e=>hvP e.symm)).trans ((hB4.block P hP).trans ho);have hg5:w4.grownBy (w4.setCell ⟨P,0,none⟩ (.slice (some ⟨g',0,none⟩) (Ls.length+1) cap)) (some P):=grown_set
 have hg'P:g'≠P:=by
  rcases hl4 with h|h
  ·exact fun e=>hvP (by rw [h,e])
  ·rw [World.size_alloc] at h;omega
 have hg'lo:lo<=g'/\g'<w4.heap.size:=World.ownsRow.lt h4 g' (by simp [Value.ownBlock]);refine ⟨?_,⟨some ⟨g',0,none⟩,cap,vs++[.slice A1 n c1],by rw [List.length_append];rfl,?_,by simp only [Value.ownBlock];intro e;injection e with e;exact hg'P e,fun i hi=>?_⟩,?_⟩
 ·unfold Out_;rw [heap_setCell_same w4 P 0 _ _ _ ho4];rfl
 ·rw [List.length_append];exact World.ownsRow.kept h4 hg5 (by rw [show (Value.slice (some ⟨g',0,none⟩) (Ls.length+1) cap).ownBlock=some g' by simp [Value.ownBlock]];exact .inr (fun e=>by injection e with e;omega))
 ·rw [List.length_append,List.length_singleton] at hi
  have hvl:vs.length=Ls.length:=by have:=hown.1;simpa using this
  by_cases hlt:i<Ls.length
  ·obtain ⟨A',c',e1,e2,e3⟩:=hin i hlt;refine ⟨A',c',by rw [List.getElem?_append_left (by omega)];exact e1,?_,fun b hb=>?_⟩
   ·rw [show (Ls++[g]).getD i []=Ls.getD i [] by simp [List.getD_eq_getElem?_getD,List.getElem?_append_left hlt]];exact ((e2.below hB4).far hg4 (fun b hb=>(e3 b hb).1)).far hg5 (fun b hb e=>by injection e with e;exact (e3 b hb).2 e.symm)
   ·have h1:=e2.own_hi b hb;rw [show (Value.slice (some ⟨g',0,none⟩) (Ls.length+1) cap).ownBlock=some g' by simp [Value.ownBlock]];refine ⟨fun e=>?_,(e3 b hb).2⟩
    injection e with e
    subst e
    rcases hl4 with h|h
    ·exact (e3 g' hb).1 h
    ·rw [World.size_alloc] at h;omega
  ·obtain rfl:i=Ls.length:=by omega
   refine ⟨A1,c1,by rw [<- hvl,List.getElem?_append_right (Nat.le_refl _)];simp,?_,fun b hb=>?_⟩
   ·rw [show (Ls++[g]).getD Ls.length []=g by simp [List.getD_eq_getElem?_getD]];have e4:Ow (w3.alloc o) W0.heap.size A1 n c1 g:=World.ownsRow.alloc ho3 o;exact ((e4.far hg4 (fun b hb e=>by have h1:=ho3.own_lo b hb;have h2:=(World.ownsRow.lt hown b e).2;omega)).far hg5 (fun b hb e=>by have:=ho3.own_lo b hb;injection e with e;omega)).mono (by omega)
   ·have h1:=ho3.own_hi b hb;have h2:=ho3.own_lo b hb;rw [show (Value.slice (some ⟨g',0,none⟩) (Ls.length+1) cap).ownBlock=some g' by simp [Value.ownBlock]];refine ⟨fun e=>?_,by omega⟩
    injection e with e
    subst e
    rcases hl4 with h|h
    ·have:=(World.ownsRow.lt hown g' h).2;omega
    ·rw [World.size_alloc] at h;omega
 ·refine ⟨?_,?_,?_,?_,fun k hk hkP hkv=>?_,fun b hb=>?_⟩
  ·exact hg5.os.trans (hg4.os.trans hB4.os)
  ·exact hg5.tape.trans (hg4.tape.trans hB4.tape)
  ·exact hg5.output.trans (hg4.output.trans hB4.output)
  ·exact Nat.le_trans hB4.size (Nat.le_trans hg4.size hg5.size)
  ·exact (hg5.block k (Nat.lt_of_lt_of_le hk (Nat.le_trans hB4.size hg4.size)) (fun e=>hkP (by injection e))).trans ((hg4.block k (Nat.lt_of_lt_of_le hk hB4.size) (fun e=>hkv e.symm)).trans (hB4.block k hk))
  ·rw [show (Value.slice (some ⟨g',0,none⟩) (Ls.length+1) cap).ownBlock=some g' by simp [Value.ownBlock]] at hb
   injection hb with hb
   subst hb
   rcases hl4 with h|h
   ·exact .inl h
   ·exact .inr (by rw [World.size_alloc] at h;omega)
theorem Rows_.below {w w':World} {lo P:Nat} {v:Value} {Ls:List (List Int)} {n:Nat} (h:Rows_ w lo P v Ls n) (hb:Below w.heap.size w w'):Rows_ w' lo P v Ls n:=by
 obtain ⟨A,c,vs,e,hown,hvP,hin⟩:=h
 refine ⟨A,c,vs,e,World.ownsRow.kept hown (row:=none) ⟨hb.os,hb.tape,hb.output,hb.size,fun k hk _=>hb.block k hk⟩ (by
  cases e:v.ownBlock
  ·exact .inl rfl
  ·exact .inr (by simp)),hvP,fun i hi=>?_⟩
 obtain ⟨A',c',e1,e2,e3⟩:=hin i hi;exact ⟨A',c',e1,e2.below hb,e3⟩
theorem Rows_.own {w:World} {lo P:Nat} {v:Value} {Ls:List (List Int)} {n:Nat} (h:Rows_ w lo P v Ls n):∀ g,v.ownBlock=some g->lo<=g/\g<w.heap.size:=by
 obtain ⟨A,c,vs,rfl,hown,hvP,hin⟩:=h;exact World.ownsRow.lt hown
theorem Chg5.below {w w':World} {P lo B:Nat} {v v':Value} (h:Chg5 w w' P v v') (hv:∀ g,v.ownBlock=some g->lo<=g) (hP:B<=P) (hlo:B<=lo) (hB:B<=w.heap.size):Below B w w':=
 ⟨h.1,h.2.1,h.2.2.1,h.2.2.2.1,fun k hk=>h.2.2.2.2.1 k (Nat.lt_of_lt_of_le hk hB) (by omega) (fun e=>by have:=hv k e;omega)⟩
theorem Rd.rd' {w w':World} {P:Nat} {v v':Value} {B:Nat} {A:Option Addr} {n:Nat} {xs:List Int} (h:Rd w B A n xs) (hc:Chg5 w w' P v v') (hB:B<=w.heap.size) (hne:∀ b off,A=some ⟨b,off,none⟩->b≠P/\v.ownBlock≠some b):Rd w' B A n xs:=Chg5.rd h hc hB hne
theorem s5_len (fit:List Int->Bool) (s most:Nat):∀ f g p Ls,Ls.length<most->(s5 fit s most f g p Ls).length<=most:=by
 intro f
 induction f with
 |zero=>intro g p Ls h;simp only [s5,List.length_append,List.length_singleton];omega
 |succ f ih=>
  intro g p Ls h
  have key:∀ r v (Ls:List (List Int)),Ls.length<=most->(tryV fit (fun g' L'=>s5 fit s most f g' (p+1) L') g p most r v Ls).length<=most:=by
   intro r
   induction r with
   |zero=>intro v Ls h;exact h
   |succ r ihr=>
    intro v Ls h;simp only [tryV]
    split
    ·next h2=>
     refine ihr _ _ ?_
     split
     ·exact ih _ _ _ h2
     ·exact h
    ·exact h
  simp only [s5]
  split
  ·exact ih _ _ _ h
  ·exact key _ _ _ (Nat.le_of_lt h)
def Post5 (w:World) (P lo n:Nat) (v:Value) (Ls:List (List Int)) (e:Ending) (w':World):Prop:=e=.returned (.tuple #[])/\∃ v',Out_ w' P v'/\Rows_ w' lo P v' Ls n/\Chg5 w w' P v v'
set_option maxHeartbeats 2000000 in
theorem specSearch5 (s:Nat) (Ag:Option Addr) (n cg Bg:Nat) (gi:List Int) (Ar:Option Addr) (nr cr Br:Nat) (rs:List RuleM) (hs:s∈[2,3,4]) (hn:Hid ((n:Int)=(s:Int)*s)) (hn16:n<=16) (P lo most:Nat) (hBg':Bg<=lo) (hBr':Br<=lo) (hlo:lo<=P) (hmr:nr<=1099511627776) (hm:most<=1000) (N:Nat):
 ∀ (A:Option Addr) (c B:Nat) (g:List Int) (at_:Nat) (v:Value) (Ls:List (List Int)) (w:World),n-at_=N->at_<=n->Rd w Bg Ag n gi->RdRs w Br Ar nr rs->Rd w B A n g->B<=w.heap.size->(∀ b off,A=some ⟨b,off,none⟩->b≠P/\v.ownBlock≠some b)->Hid (okAll g s n)->Out_ w P v->Rows_ w lo P v Ls n->Ls.length<most->lo<=w.heap.size->
 Calls Tryz.prog 116 #[.agg #[.int .i64 s,.slice Ag n cg,.slice Ar nr cr],.slice A n c,.int .i64 at_,.int .i64 most,.pointer (some ⟨P,0,none⟩)] w (Post5 w P lo n v (s5 (fitB s gi rs) s most (n-at_) g at_ Ls)):=by
 have hBg:Bg<=P:=Nat.le_trans hBg' hlo;have hBr:Br<=P:=Nat.le_trans hBr' hlo
 induction N using Nat.strongRecOn with
 |_ N ih=>
  intro A c B g at_ v Ls w hN hat hgi hr h hB hne hok ho hrw hL hlow;have Ih:=Lib.hid ih;clear ih;have HN:=Lib.hid hN;clear hN;obtain ⟨i0,hi,hz0,hz1,hz2⟩:=info_parts ints_info;have hx0:=pbox_new w s Ag n cg Ar nr cr 26;have hb0:Below w.heap.size w (w.alloc (.cells #[.int .i64 s,.slice Ag n cg,.slice Ar nr cr] 26)):=(Below.refl _ _).alloc (Nat.le_refl _) _
  have hs0:w.heap.size<(w.alloc (.cells #[.int .i64 s,.slice Ag n cg,.slice Ar nr cr] 26)).heap.size:=by simp
  go_enter Tryz.func116,Tryz.ntmps116
  go_wp2
  obtain ⟨W0,hW0⟩:∃ W0,W0=w.alloc (.cells #[.int .i64 s,.slice Ag n cg,.slice Ar nr cr] 26):=⟨_,rfl⟩;rw [<- hW0] at hx0 hb0 hs0;rw [<- hW0];clear hW0;have h0:=h.below (hb0.mono hB)
  go_loopw [2] (fun i wr=>wr=W0/\∃ p:Nat,at_<=p/\p<=n/\i=.int .i64 p/\Hid (s5 (fitB s gi rs) s most (n-at_) g at_ Ls=s5 (fitB s gi rs) s most (n-p) g p Ls)) (fun i _=>n-(intOf i).toNat)
  case atStart=>exact ⟨rfl,at_,Nat.le_refl _,hat,rfl,Lib.hid rfl⟩
  case round=>
   obtain ⟨rfl,p,hp1,hp2,rfl,hsk⟩:=hrel
   by_cases hlt:p<n
   ·obtain ⟨b,off,hA,hbB,hck⟩:=h0.at_ hlt;subst hA;obtain ⟨x0,x4⟩:=hok.out p hlt;have hf:n-p=(n-(p+1))+1:=(by omega)
    by_cases hx:0<nth g p
    ·have hsk2:=Lib.hid (show s5 (fitB s gi rs) s most (n-at_) g at_ Ls=s5 (fitB s gi rs) s most (n-(p+1)) g (p+1) Ls by rw [hsk.out,hf];simp only [s5];rw [if_pos hx]);clear hf
     go_wp2
     go_roundw
     case rel=>exact ⟨by trivial,p+1,by omega,by omega,by go_num,hsk2⟩
     case measure=>simp [intOf];omega
    ·have hsk2:=Lib.hid (show s5 (fitB s gi rs) s most (n-at_) g at_ Ls=tryV (fitB s gi rs) (fun g' L'=>s5 (fitB s gi rs) s most (n-(p+1)) g' (p+1) L') g p most s 1 Ls by rw [hsk.out,hf];simp only [s5];rw [if_neg hx]);have hpn:((p:Int)==(n:Int))=false:=(by simp only [beq_eq_false_iff_ne];omega);have hgw:=hgi.below (hb0.mono (Nat.le_trans hBg (Nat.le_of_lt ho.lt)));have hrw0:=hr.below (hb0.mono (Nat.le_trans hBr (Nat.le_of_lt ho.lt)));have hout0:Out_ wr P v:=(hb0.block P ho.lt).trans ho;have hrows0:=hrw.below hb0;have hPw:=hout0.lt;have hvo:=hrw.own
     have hww:=hb0.size
     have hvw:v.ownBlock≠some w.heap.size:=fun e=>by have:=(hvo _ e).2;omega
     have hwP:w.heap.size≠P:=(by have:=ho.lt;omega);clear hf hsk
     go_wp2
     obtain ⟨W0,hW⟩:∃ W0,W0=wr:=⟨_,rfl⟩;rw [<- hW];rw [<- hW] at hx0 hb0 hs0 h0 hck hgw hrw0 hout0 hrows0 hPw hww;clear hW
     go_loopw [10] (fun i wr=>∃ (q:Nat) (vv:Value) (L':List (List Int)),1<=q/\q<=s+1/\i=.int .i64 q/\Hid (tryV (fitB s gi rs) (fun g' L'=>s5 (fitB s gi rs) s most (n-(p+1)) g' (p+1) L') g p most s 1 Ls=tryV (fitB s gi rs) (fun g' L'=>s5 (fitB s gi rs) s most (n-(p+1)) g' (p+1) L') g p most (s+1-q) q L')/\Out_ wr P vv/\Rows_ wr lo P vv L' n/\Chg5 W0 wr P v vv/\L'.length<=most) (fun i _=>s+1-(intOf i).toNat)
     case atStart=>exact ⟨1,v,Ls,by omega,by omega,rfl,Lib.hid (by rw [Nat.add_sub_cancel]),hout0,hrows0,Chg5.refl _ _ _,Nat.le_of_lt hL⟩
     case round=>
      obtain ⟨q,vv,L',hq1,hq2,rfl,htv,hout,hrows,hchg,hLm⟩:=hrel;have hoc:=hout.cell;obtain ⟨Ao,co,vs,rfl,hown,hvP2,hin⟩:=id hrows;have b0:=(hchg.cell hs0 hwP hvw).trans hx0.1;have b1:=(hchg.cell hs0 hwP hvw).trans hx0.2.1;have b2:=(hchg.cell hs0 hwP hvw).trans hx0.2.2;have hfin:=(Chg5.ofBelow (P:=P) (v:=v) hb0).trans hchg;have hsW:=hchg.2.2.2.1
      by_cases hqs:q<=s
      ·have hqs':(q:Int)<=(s:Int):=(by omega)
       by_cases hlm:L'.length<most
       ·have hlm':(L'.length:Int)<(most:Int):=(by omega)
        have hneW:∀ b' off',(some ⟨b,off,none⟩:Option Addr)=some ⟨b',off',none⟩->b'≠P/\v.ownBlock≠some b':=fun b' off' e=>hne b' off' e
        have hBW:B<=W0.heap.size:=Nat.le_trans hB hww;have hr':Rd wr B (some ⟨b,off,none⟩) n g:=h0.rd' hchg hBW hneW;have hbP:Below lo W0 wr:=hchg.below (fun g hg=>(hvo g hg).1) hlo (Nat.le_refl _) (by omega);have hgw2:=hgw.below (hbP.mono hBg');have hrw2:=hrw0.below (hbP.mono hBr');have hlowr:lo<=wr.heap.size:=(by omega);have hwwr:w.heap.size<wr.heap.size:=(by omega)
        go_wp2_with (at_builtin;(refine push_some rfl (.tmp 53) (.tmp 54) rfl wr.heap.size (some ⟨wr.heap.size,0,none⟩) 0 0 [] b off n c B g rfl rfl (Ow.made0 _ _ (Nat.le_refl _)) (hr'.alloc (by omega) _) (by omega) (by omega) (by simp) ?_);(intro A1 c1 w1 ho1 hg1);(simp only [Nat.zero_add,List.nil_append] at ho1);(obtain ⟨gb,rfl,hlog,hgw1⟩:=ho1.form (by omega));(obtain ⟨hcq,hfq⟩:=ho1.cell hlt);(have hbw1:Below wr.heap.size wr w1:=((Below.refl _ _).alloc (Nat.le_refl _) _).grown hg1 (by simp) (fun k hk=>(Ow.made0 wr wr.heap.size (Nat.le_refl _)).own_lo k hk));(have hgbw:w.heap.size≠gb:=by omega);(have d0:=(cell_other5 (k:=p) (v:=.int .i64 (q:Int)) hgbw).trans ((hbw1.cell (p:=⟨w.heap.size,0,none⟩) hwwr).trans b0));(have d1:=(cell_other5 (k:=p) (v:=.int .i64 (q:Int)) hgbw).trans ((hbw1.cell (p:=⟨w.heap.size,1,none⟩) hwwr).trans b1));(have d2:=(cell_other5 (k:=p) (v:=.int .i64 (q:Int)) hgbw).trans ((hbw1.cell (p:=⟨w.heap.size,2,none⟩) hwwr).trans b2)))
        have ho2:Ow (w1.setCell ⟨gb,p,none⟩ (.int .i64 q)) wr.heap.size (some ⟨gb,0,none⟩) n c1 (g.set p (q:Int)):=by
         have:=(World.ownsRow.stored ho1 p (.int .i64 (q:Int))).1;rw [vals_set] at this;exact this
        have hb2:Below wr.heap.size wr (w1.setCell ⟨gb,p,none⟩ (.int .i64 q)):=(((Below.refl _ _).alloc (Nat.le_refl _) _).grown hg1 (by simp) (fun k hk=>(Ow.made0 wr wr.heap.size (Nat.le_refl _)).own_lo k hk)).setCell hlog _
        generalize w1.setCell ⟨gb,p,none⟩ (.int .i64 (q:Int))=W2 at*
        have hok2:=Lib.hid (okAll_set hok.out h.1 hlt (by omega:(0:Int)<=(q:Int)) hqs');have hBP:P<=wr.heap.size:=Nat.le_of_lt hout.lt;have HF:=Lib.hid (specFits s Ag n cg Bg gi Ar nr cr Br rs (some ⟨gb,0,none⟩) c1 W2.heap.size (g.set p (q:Int)) W2 (hgw2.below (hb2.mono (Nat.le_trans hBg hBP))) (Nat.le_trans (Nat.le_trans hBg hBP) hb2.size) (hrw2.below (hb2.mono (Nat.le_trans hBr hBP))) (Nat.le_trans (Nat.le_trans hBr hBP) hb2.size) hmr ho2.rd (Nat.le_refl _) hs hn hok2);have hstep:s+1-q=(s-q)+1:=(by omega);have hstep2:s+1-(q+1)=s-q:=(by omega)
        have hs4:s<=4:=(by simp at hs;omega);have hPr:=hout.lt;have hlt2:=World.ownsRow.lt hown
        have hne3:∀ b' off':Nat,(some ⟨gb,0,none⟩:Option Addr)=some ⟨b',off',none⟩->b'≠P/\(Value.slice Ao L'.length co).ownBlock≠some b':=fun b' off' e=>by
         cases e;exact ⟨by omega,fun e=>by have:=(hlt2 _ e).2;omega⟩
        have hout2:Out_ W2 P (.slice Ao L'.length co):=(hb2.block P hPr).trans hout;have hrows2:Rows_ W2 lo P (.slice Ao L'.length co) L' n:=hrows.below hb2;have hc2:Chg5 W0 W2 P v (.slice Ao L'.length co):=hchg.trans (Chg5.ofBelow hb2);have hs2:=hb2.size;clear hcq hfq hg1 ho1 hbw1 hoc hrows hout hown hin hfin hchg b0 b1 b2;refine HF.out.mono ?_;rintro e w3 ⟨rfl,hb3⟩;have hs3:=hb3.size;have hwW2:w.heap.size<W2.heap.size:=(by omega);have e0:=(hb3.cell (p:=⟨w.heap.size,0,none⟩) hwW2).trans d0;have e1:=(hb3.cell (p:=⟨w.heap.size,1,none⟩) hwW2).trans d1
        have e2:=(hb3.cell (p:=⟨w.heap.size,2,none⟩) hwW2).trans d2;have hout3:Out_ w3 P (.slice Ao L'.length co):=(hb3.block P hout2.lt).trans hout2;have hrows3:=hrows2.below hb3;have hc3:Chg5 W0 w3 P v (.slice Ao L'.length co):=hc2.trans (Chg5.ofBelow hb3);have hg3:=(hgw2.below (hb2.mono (Nat.le_trans hBg hBP))).below (hb3.mono (Nat.le_trans (Nat.le_trans hBg hBP) hb2.size));have hr3:=(hrw2.below (hb2.mono (Nat.le_trans hBr hBP))).below (hb3.mono (Nat.le_trans (Nat.le_trans hBr hBP) hb2.size));have ho3:=ho2.below hb3;clear hout2 hrows2 hc2 hgw2 hrw2 ho2 d0 d1 d2
        cases hft:fitB s gi rs (g.set p (q:Int))
        ·have Hn:=Lib.hid (show tryV (fitB s gi rs) (fun g' L'=>s5 (fitB s gi rs) s most (n-(p+1)) g' (p+1) L') g p most (s+1-q) q L'=tryV (fitB s gi rs) (fun g' L'=>s5 (fitB s gi rs) s most (n-(p+1)) g' (p+1) L') g p most (s+1-(q+1)) (q+1) L' by rw [hstep,hstep2];simp only [tryV];rw [if_pos hlm,hft];rfl);have Ht:=Lib.hid (htv.out.trans Hn.out);clear hstep hstep2 hft Hn
         go_wp2
         go_roundw
         case rel=>exact ⟨q+1,_,L',by omega,by omega,by go_num,Ht,hout3,hrows3,hc3,hLm⟩
         case measure=>simp [intOf];omega
        ·have Hn:=Lib.hid (show tryV (fitB s gi rs) (fun g' L'=>s5 (fitB s gi rs) s most (n-(p+1)) g' (p+1) L') g p most (s+1-q) q L'=tryV (fitB s gi rs) (fun g' L'=>s5 (fitB s gi rs) s most (n-(p+1)) g' (p+1) L') g p most (s+1-(q+1)) (q+1) (s5 (fitB s gi rs) s most (n-(p+1)) (g.set p (q:Int)) (p+1) L') by rw [hstep,hstep2];simp only [tryV];rw [if_pos hlm,hft];rfl);have Ht:=Lib.hid (htv.out.trans Hn.out);have Hl:=Lib.hid (s5_len (fitB s gi rs) s most (n-(p+1)) (g.set p (q:Int)) (p+1) L' hlm);have Hm:=Lib.hid (show n-(p+1)<N by have:=HN.out;omega)
         have hp1n:p+1<=n:=hlt;have hlow3:lo<=w3.heap.size:=(by omega);clear hstep hstep2 hft Hn
         go_wp2_with (go_at_call 116;(rw [show ((p:Int)+1)=((p+1:Nat):Int) from by omega]);(refine (Ih.out _ Hm.out _ _ _ _ _ _ _ _ rfl hp1n hg3 hr3 ho3.rd (Nat.le_refl _) hne3 hok2 hout3 hrows3 hlm hlow3).mono ?_);rintro e w4 ⟨rfl,v4,hout4,hrows4,hchg4⟩)
         go_roundw
         case rel=>exact ⟨q+1,_,_,by omega,by omega,by go_num,Ht,hout4,hrows4,hc3.trans hchg4,Hl.out⟩
         case measure=>simp [intOf];omega
       ·have hlm':decide ((L'.length:Int)<(most:Int))=false:=(by simp;omega);have HL:=Lib.hid (show s5 (fitB s gi rs) s most (n-at_) g at_ Ls=L' by rw [hsk2.out,htv.out,show s+1-q=(s-q)+1 by omega];simp only [tryV];rw [if_neg hlm])
        go_wp2
        (try simp only [Exit.inBlock,Exit.then])
        refine bodyPost_ret (results_none rfl _ _ _) rfl ?_;rw [HL.out];exact ⟨rfl,_,hout,hrows,hfin⟩
      ·have hqs':decide ((q:Int)<=(s:Int))=false:=(by simp;omega);have HL:=Lib.hid (show s5 (fitB s gi rs) s most (n-at_) g at_ Ls=L' by rw [hsk2.out,htv.out,show s+1-q=0 by omega];rfl)
       go_wp2
       (try simp only [Exit.inBlock,Exit.then])
       refine bodyPost_ret (results_none rfl _ _ _) rfl ?_;rw [HL.out];exact ⟨rfl,_,hout,hrows,hfin⟩
   ·obtain rfl:p=n:=by omega
    obtain ⟨Ao,co,vs,rfl,hown,hvP,hin⟩:=id hrw;have ho1:Out_ wr P (.slice Ao Ls.length co):=(hb0.block P ho.lt).trans ho;have hoc:=ho1.cell;have hof:=ho1.free;have HR:=Lib.hid (fun w' (hb:Below wr.heap.size wr w')=>h0.below (hb.mono (Nat.le_trans hB hb0.size)))
    have hown0:wr.ownsRow lo 23 1 (.slice Ao Ls.length co) Ls.length vs:=World.ownsRow.kept hown (row:=none) ⟨hb0.os,hb0.tape,hb0.output,hb0.size,fun k hk _=>hb0.block k hk⟩ (by
     cases e:(Value.slice Ao Ls.length co).ownBlock
     ·exact .inl rfl
     ·exact .inr (by simp))
    have HO:Hid (∀ w',Below wr.heap.size wr w'->w'.ownsRow lo 23 1 (.slice Ao Ls.length co) Ls.length vs):=Lib.hid (fun w' hb=>World.ownsRow.kept hown0 (row:=none) ⟨hb.os,hb.tape,hb.output,hb.size,fun k hk _=>hb.block k hk⟩ (by
     cases e:(Value.slice Ao Ls.length co).ownBlock
     ·exact .inl rfl
     ·exact .inr (by simp)))
    have hPw:=ho1.lt;have hlow':lo<=wr.heap.size:=(by omega);have HL:=Lib.hid (show s5 (fitB s gi rs) s most (p-at_) g at_ Ls=Ls++[g] by rw [hsk.out,Nat.sub_self];rfl);have hpp:((p:Int)==(p:Int))=true:=(by simp)
    go_wp2
    go_region_law (first
     |(refine step_push_new (by rfl) _ _ (by rfl) wr.heap.size (some ⟨wr.heap.size,0,none⟩) A p c B g (by rfl) (by rfl) (Ow.made0 _ _ (Nat.le_refl _)) (HR.out _ (below_d1 _ _)) (by omega) (below_d1 _ _).size ?_;intro A1 c1 w3 ho3 hg3 hl3;have hbA:Below wr.heap.size wr w3:=below_push (below_d1 _ _) (Ow.made0 _ _ (Nat.le_refl _)) (Nat.le_refl _) (below_d1 _ _).size hg3;have hoc3:=(hbA.cell (p:=⟨P,0,none⟩) hPw).trans hoc;have hP3:=Nat.lt_of_lt_of_le hPw hbA.size)
     |(refine step_append_lies _ (by rfl) _ _ 70 (by rfl) lo 23 i0 (.slice none 0 0) 1 24 Tryz.underlying70 hi hz0 hz1 hz2 (by rfl) (by decide) (.slice Ao Ls.length co) Ls.length vs (by rfl) (HO.out _ (hbA.alloc hbA.size _)) ⟨w3.heap.size,0,none⟩ 1 1 [.slice A1 p c1] (by rfl) (by rfl) (World.news_of_block (cs:= #[.slice A1 p c1]) (t:=23) (fr:=(0,0)) (heap_alloc_new w3 _)) (by simp [Value.oneCell']) (by decide) (by simp only [maxLen];omega) (by omega) (Nat.le_trans hlow' (hbA.alloc hbA.size _).size) _ rfl ?_;intro g' cap w4 h4 hg4 hl4 hlt4;have ho4:Out_ w4 P (.slice Ao Ls.length co):=(hg4.block P (Nat.lt_of_lt_of_le hPw (hbA.alloc hbA.size _).size) (fun e=>hvP e.symm)).trans (((hbA.alloc hbA.size _).block P hPw).trans ho1);have hoc4:=ho4.cell;have hof4:=ho4.free))
    all_goals
     go_wp2
     (try simp only [Exit.inBlock,Exit.then])
     refine bodyPost_ret (results_none rfl _ _ _) rfl ?_;rw [HL.out];obtain ⟨q1,q2,q3⟩:=rows_push hb0 ho hown hin hvP hlow hbA ho3 h4 hg4 hl4;exact ⟨rfl,_,q1,q2,q3⟩
end Go.Proofs.YtkeoflnmbcdmfaaGreatDoor
set_option maxRecDepth 8000
namespace Go.Proofs.YtkeoflnmbcdmfaaGreatDoor
open Go.ChangeShapes Go.WideShapes Go.ChangeAt Go.RowKit
def allS (s:Int) (most n:Nat) (gi:List Int) (rs:List RuleM):List (List Int):=if fpB s gi rs gi=true then s5 (fitB s gi rs) s.toNat most n gi 0 [] else []
theorem allS_len (s:Int) (most n:Nat) (gi:List Int) (rs:List RuleM) (h:0<most):(allS s most n gi rs).length<=most:=by
 unfold allS
 split
 ·exact s5_len _ _ _ _ _ _ _ (by simpa using h)
 ·exact Nat.zero_le _
theorem pv_grid {s:Int} {gi:List Int} {rs:List RuleM} {ng:Nat} (h:pvB s gi rs=true) (hl:gi.length=ng):∃ t:Nat,s=t/\t∈[2,3,4]/\(ng:Int)=(t:Int)*t/\ng<=16/\okAll gi t ng:=by
 obtain ⟨hgi,_,_⟩:=pv_gv h;obtain ⟨s2,s4⟩:=gv_size hgi;obtain ⟨t,rfl⟩:=Int.eq_ofNat_of_zero_le (by omega:0<=s)
 have hs:t∈[2,3,4]:=by
  have:t=2\/t=3\/t=4:=by omega
  simpa using this
 have e1:=gv_len hgi;rw [hl] at e1;refine ⟨t,rfl,hs,e1,by have:=(sq_bd s2 s4).2;omega,fun i hi=>gv_nth hgi (by rw [hl];exact hi)⟩
set_option maxHeartbeats 2000000 in
theorem specAll (s:Int) (most:Nat) (Ag:Option Addr) (n cg Bg:Nat) (gi:List Int) (Ar:Option Addr) (nr cr Br:Nat) (rs:List RuleM) (w:World) (hp:PGs w s Ag n cg Bg gi Ar nr cr Br rs) (h0:0<most) (h1:most<=1000):
 Calls Tryz.prog 63 #[.agg #[.int .i64 s,.slice Ag n cg,.slice Ar nr cr],.int .i64 most] w fun e w'=>∃ P v,e=.returned v/\Rows_ w' (w.heap.size+1) P v (allS s most n gi rs) n/\Below w.heap.size w w':=by
 have hx0:=pbox_new w s Ag n cg Ar nr cr 26;have hb0:Below w.heap.size w (w.alloc (.cells #[.int .i64 s,.slice Ag n cg,.slice Ar nr cr] 26)):=(Below.refl _ _).alloc (Nat.le_refl _) _
 have hs0:w.heap.size<(w.alloc (.cells #[.int .i64 s,.slice Ag n cg,.slice Ar nr cr] 26)).heap.size:=by simp
 have HF:=Lib.hid (fun w' (hb:Below w.heap.size w w')=>specPuzzleFits s Ag n cg Bg gi Ar nr cr Br rs Ag n cg Bg gi w' (hp.below hb) (hp.below hb).g (hp.below hb).gB hp.gm);obtain ⟨U,hU⟩:∃ U,U=((w.alloc (.cells #[.int .i64 s,.slice Ag n cg,.slice Ar nr cr] 26)).alloc (.cells #[] 23)).alloc (.cells #[.slice (some ⟨w.heap.size+1,0,none⟩) 0 0] 70):=⟨_,rfl⟩
 have hbU:Below w.heap.size w U:=by rw [hU];exact (hb0.alloc hb0.size _).alloc (by simp;omega) _
 have hsU:U.heap.size=w.heap.size+1+1+1:=by rw [hU];simp
 have hwU:w.heap.size<U.heap.size:=by omega
 obtain ⟨c0,c1,c2⟩:PBox U w.heap.size s Ag n cg Ar nr cr:=by
  rw [hU];exact hx0.below hs0 (((Below.refl _ _).alloc (Nat.le_refl _) _).alloc (by simp) _)
 have hout:Out_ U (w.heap.size+1+1) (.slice (some ⟨w.heap.size+1,0,none⟩) 0 0):=by
  have:=heap_alloc_new ((w.alloc (.cells #[.int .i64 s,.slice Ag n cg,.slice Ar nr cr] 26)).alloc (.cells #[] 23)) (.cells #[.slice (some ⟨w.heap.size+1,0,none⟩) 0 0] 70);rw [World.size_alloc,World.size_alloc] at this;unfold Out_;rw [hU];exact this
 have hrows:Rows_ U (w.heap.size+1) (w.heap.size+1+1) (.slice (some ⟨w.heap.size+1,0,none⟩) 0 0) [] n:=by
  refine ⟨some ⟨w.heap.size+1,0,none⟩,0,[],rfl,?_,by simp [Value.ownBlock],fun i hi=>absurd hi (by simp)⟩;have h:((w.alloc (.cells #[.int .i64 s,.slice Ag n cg,.slice Ar nr cr] 26)).alloc (.cells #[] 23)).ownsRow (w.heap.size+1) 23 1 (.slice (some ⟨(w.alloc (.cells #[.int .i64 s,.slice Ag n cg,.slice Ar nr cr] 26)).heap.size,0,none⟩) 0 0) 0 []:=World.ownsRow_made _ #[] 0 (by simp) (by simp [maxLen]) rfl;rw [World.size_alloc] at h;rw [hU];exact World.ownsRow.alloc h _
 cases hf:fpB s gi rs gi
 ·have HL:=Lib.hid (show allS s most n gi rs=[] by simp [allS,hf])
  go_enter Tryz.func63,Tryz.ntmps63
  go_wp2_with (go_at_call 115;(rw [<- hU];refine (HF.out _ hbU).mono ?_);rintro e w1 ⟨rfl,hb1⟩;rw [hf];have hout1:Out_ w1 _ _:=(hb1.block _ hout.lt).trans hout;have hoc:=hout1.cell)
  go_ret
  exact ⟨_,_,rfl,by rw [HL.out];exact hrows.below hb1,step hbU hb1⟩
 ·obtain ⟨t,rfl,hs,hn',hn16,hok'⟩:=pv_grid (show pvB s gi rs=true by simp only [fpB,Bool.and_eq_true] at hf;exact hf.1.1) hp.g.1;have hn:=Lib.hid hn';have hok:=Lib.hid hok';clear hn' hok'
  have Hne:Hid (∀ b' off':Nat,Ag=some ⟨b',off',none⟩->b'≠w.heap.size+1+1/\(Value.slice (some ⟨w.heap.size+1,0,none⟩) 0 0).ownBlock≠some b'):=Lib.hid (fun b' off' e=>by
   obtain ⟨b,off,hA,hbB,_⟩:=hp.g.at_ (k:=0) (by have:=hn.out;simp at hs;rcases hs with h|h|h<;>subst h<;>omega);rw [hA] at e;cases e;have:=hp.gB
   exact ⟨by omega,by simp only [Value.ownBlock];intro e;injection e with e;omega⟩)
  have HS:=Lib.hid (fun w' (hb:Below U.heap.size U w')=>specSearch5 t Ag n cg Bg gi Ar nr cr Br rs hs hn hn16 (w.heap.size+1+1) (w.heap.size+1) most (Nat.le_trans hp.gB (Nat.le_succ _)) (Nat.le_trans hp.rB (Nat.le_succ _)) (Nat.le_succ _) hp.rm h1 n Ag cg Bg gi 0 (.slice (some ⟨w.heap.size+1,0,none⟩) 0 0) [] w' (Nat.sub_zero _) (Nat.zero_le _) ((hp.below hbU).below hb).g ((hp.below hbU).below hb).r ((hp.below hbU).below hb).g ((hp.below hbU).below hb).gB Hne.out hok ((hb.block _ hout.lt).trans hout) (hrows.below hb) (by simpa using h0) (by have:=hb.size;omega));have HL:=Lib.hid (show allS t most n gi rs=s5 (fitB t gi rs) t most n gi 0 [] by simp [allS,hf])
  go_enter Tryz.func63,Tryz.ntmps63
  go_wp2_with (first|(go_at_call 115;(rw [<- hU];refine (HF.out _ hbU).mono ?_);(rintro e w1 ⟨rfl,hb1⟩;rw [hf]);obtain ⟨d0,d1,d2⟩:PBox w1 w.heap.size t Ag n cg Ar nr cr:=PBox.below ⟨c0,c1,c2⟩ hwU hb1)|(go_at_call 116;(refine (HS.out _ hb1).mono ?_);(rintro e w2 ⟨rfl,v2,hout2,hrows2,hchg2⟩);have hoc:=hout2.cell))
  go_ret
  refine ⟨_,_,rfl,by rw [HL.out];exact hrows2,(step hbU hb1).trans (hchg2.below (lo:=w.heap.size+1) (fun g hg=>?_) (by omega) (by omega) (by have:=hb1.size;omega))⟩;simp only [Value.ownBlock] at hg
  injection hg with hg
  omega
end Go.Proofs.YtkeoflnmbcdmfaaGreatDoor
set_option maxRecDepth 8000
namespace Go.Proofs.YtkeoflnmbcdmfaaGreatDoor
open Go.ChangeShapes Go.WideShapes Go.ChangeAt Go.RowKit
def allW (ms:List Int):Nat->List Int->List (List Int)
 |0,vs=>[vs]
 |d+1,vs=>(bitsTo (nth ms vs.length).toNat 4).flatMap fun x=>allW ms d (vs++[x])
theorem bits_flat {β:Type} (M u:Nat) (f:Int->List β):(bitsTo M (u+1)).flatMap f=(bitsTo M u).flatMap f++(if M.testBit (u+1)=true then f ((u:Int)+1) else []):=by
 simp only [bitsTo,List.flatMap_append]
 split<;>simp
theorem bits_mem {M u:Nat} {y:Int} (h:y∈bitsTo M u):1<=y/\y<=(u:Int):=by
 induction u with
 |zero=>simp [bitsTo] at h
 |succ u ih=>
  simp only [bitsTo,List.mem_append] at h
  rcases h with h|h
  ·have:=ih h;omega
  ·split at h
   ·simp at h;omega
   ·simp at h
theorem allW_len {ms:List Int}:∀ {d:Nat} {vs ys:List Int},ys∈allW ms d vs->ys.length=vs.length+d:=by
 intro d
 induction d with
 |zero=>intro vs ys h;simp [allW] at h;subst h;rfl
 |succ d ih=>
  intro vs ys h;simp only [allW,List.mem_flatMap] at h;obtain ⟨x,_,h⟩:=h;have:=ih h;rw [List.length_append,List.length_singleton] at this;omega
theorem allW_small {ms:List Int}:∀ {d:Nat} {vs ys:List Int},(∀ i,i<vs.length->1<=nth vs i/\nth vs i<=4)->ys∈allW ms d vs->∀ i,i<vs.length+d->1<=nth ys i/\nth ys i<=4:=by
 intro d
 induction d with
 |zero=>intro vs ys hv h;simp [allW] at h;subst h;simpa using hv
 |succ d ih=>
  intro vs ys hv h;simp only [allW,List.mem_flatMap] at h;obtain ⟨x,hx,h⟩:=h;have hx':=bits_mem hx;intro i hi;refine ih (fun j hj=>?_) h i (by rw [List.length_append,List.length_singleton];omega);rw [List.length_append,List.length_singleton] at hj;rw [nth_push rfl]
  split
  ·exact hv j (by assumption)
  ·rw [if_pos (by omega)];omega
theorem foldN_foldl (step:Int->List Nat->List Nat) (L:List Int) (F:List Nat):∀ t,t<=L.length->foldN step L t F=(L.take t).foldl (fun G x=>step x G) F:=by
 intro t
 induction t with
 |zero=>intro _;simp [foldN]
 |succ t ih=>
  intro ht;simp only [foldN];rw [ih (by omega),List.take_add_one,List.foldl_append,List.getElem?_eq_getElem (by omega)]
  simp [nth,List.getD_eq_getElem?_getD,List.getElem?_eq_getElem (show t<L.length by omega)]
def orWay (k v:Int) (G:List Nat) (ys:List Int):List Nat:=if holdsB k v ys=true then orTo ys G G.length else G
def orAll (G:List Nat) (ys:List Int):List Nat:=orTo ys G G.length
theorem waysF_fold (k v:Int) (xs ms pm:List Int):∀ d vs F,(∀ i,vs.length<=i->i<vs.length+d->maskVals (nth ms (nth xs i).toNat)=bitsTo (nth pm i).toNat 4)->waysF k v xs ms d vs F=(allW pm d vs).foldl (orWay k v) F:=by
 intro d
 induction d with
 |zero=>intro vs F _;rfl
 |succ d ih=>
  intro vs F h;simp only [waysF,allW];rw [h vs.length (Nat.le_refl _) (by omega),foldN_foldl _ _ _ _ (Nat.le_refl _),List.take_length,List.foldl_flatMap]
  congr 1
  funext G x
  refine ih _ _ fun i h1 h2=>h i ?_ ?_
  ·rw [List.length_append,List.length_singleton] at h1;omega
  ·rw [List.length_append,List.length_singleton] at h2;omega
theorem fold_filter (k v:Int) (L:List (List Int)) (F:List Nat):L.foldl (orWay k v) F=(L.filter (holdsB k v)).foldl orAll F:=by
 rw [List.foldl_filter];rfl
theorem orAll_length (G:List Nat) (ys:List Int):(orAll G ys).length=G.length:=orTo_length _ _ _
theorem orAll_lt {n:Nat} {G:List Nat} {ys:List Int} (h:lt32 G) (hl:G.length=n) (hv:small4 ys n):lt32 (orAll G ys):=orTo_lt h hl hv
theorem foldAll_inv {n:Nat}:∀ (L:List (List Int)) (G:List Nat),(∀ ys∈L,small4 ys n)->G.length=n->lt32 G->(L.foldl orAll G).length=n/\lt32 (L.foldl orAll G):=by
 intro L
 induction L with
 |nil=>intro G _ h1 h2;exact ⟨h1,h2⟩
 |cons y L ih=>
  intro G hs h1 h2;exact ih _ (fun z hz=>hs z (List.mem_cons_of_mem _ hz)) (by rw [orAll_length,h1]) (orAll_lt h2 h1 (hs y (List.mem_cons_self ..)))
theorem foldAll_pos:∀ (L:List (List Int)) (G:List Nat),0<G.length->G.getD 0 0≠0->(L.foldl orAll G).getD 0 0≠0:=by
 intro L
 induction L with
 |nil=>intro G _ h;exact h
 |cons y L ih=>
  intro G hl h;refine ih _ (by rw [orAll_length];exact hl) ?_;unfold orAll;rw [orTo_get hl,if_pos hl];intro e;exact h (Nat.or_eq_zero_iff.1 e).1
theorem foldAll_zero (L:List (List Int)) (n:Nat) (hn:0<n):(nth (nats (L.foldl orAll (zerosN n))) 0 != 0)= !L.isEmpty:=by
 rw [nats_nth]
 cases L with
 |nil=>simp [zerosN,List.getD_eq_getElem?_getD,hn]
 |cons y L=>
  have hz:0<(zerosN n).length:=by simp [zerosN];exact hn
  have h1:(orAll (zerosN n) y).getD 0 0≠0:=by
   unfold orAll;rw [orTo_get hz,if_pos hz];intro e;have:=(Nat.or_eq_zero_iff.1 e).2;exact absurd this (by have:=Nat.two_pow_pos (nth y 0).toNat;omega)
  have:=foldAll_pos L _ (by rw [orAll_length];exact hz) h1;simp only [List.foldl_cons,List.isEmpty_cons,Bool.not_false,bne_iff_ne,ne_eq];omega
end Go.Proofs.YtkeoflnmbcdmfaaGreatDoor
set_option maxRecDepth 8000
namespace Go.Proofs.YtkeoflnmbcdmfaaGreatDoor
open Go.ChangeShapes Go.WideShapes Go.ChangeAt Go.RowKit
theorem maskVals_ok {m:Int} (h0:0<=m) (h1:m<=30) (h2:m.tmod 2=0):maskVals m=bitsTo m.toNat 4:=by
 unfold maskVals;rw [if_pos (by simp only [mvOk,inr,Bool.and_eq_true,decide_eq_true_eq,beq_iff_eq];exact ⟨⟨h0,h1⟩,h2⟩)]
def waysN (k v:Int) (pm:List Int) (n:Nat):List (List Int):=(allW pm n []).filter (holdsB k v)
theorem rm_ways {k v s:Int} {xs ms:List Int} {n:Nat} (hl:xs.length=n) (hv:rv k xs v s=true) (hm:mvd ms s=true):
 rmL k xs v ms s=nats ((waysN k v (pks ms xs n) n).foldl orAll (zerosN n)):=by
 subst hl;obtain ⟨hs,_,_,hx⟩:=rv_facts rfl hv;obtain ⟨_,hml,_,hmk⟩:=mvd_at hm;unfold rmL rmN waysN;rw [hv,hm,Bool.true_and,if_pos rfl,waysF_fold k v xs ms (pks ms xs xs.length) _ _ _ (fun i h1 h2=>?_),fold_filter]
 have hi:i<xs.length:=by simpa using h2
 obtain ⟨a,b⟩:=hx i hi;obtain ⟨m0,m1,m2⟩:=hmk (nth xs i).toNat (by omega);rw [pks_nth hi];exact maskVals_ok m0 m1 m2
theorem em_pks {g xs:List Int} {s:Int} {n:Nat} (hx:∀ i,i<n->(nth xs i).toNat<g.length):pks (emL g s) xs n=emL (pks g xs n) s:=by
 apply ext_nth (by rw [pks_length];unfold emL;rw [mapTo_length,pks_length])
 intro i hi;rw [pks_length] at hi;rw [pks_nth hi];unfold emL;rw [mapTo_nth (hx i hi),mapTo_nth (by rw [pks_length];exact hi)];unfold emG emN;rw [pks_nth hi]
theorem rp_ways {k v:Int} {s:Nat} {xs g:List Int} {n:Nat} (hl:xs.length=n) (hv:rv k xs v s=true) (hg:gv g s=true) (hs:s∈[2,3,4]):
 rpB k xs v g s= !((allW (emL (pks g xs n) s) n []).filter (holdsB k v)).isEmpty:=by
 obtain ⟨_,⟨hn1,hn4⟩,_,_⟩:=rv_facts hl hv;obtain ⟨_,hin⟩:=pks_small hl hv hg;unfold rpB;rw [hv,hg,Bool.true_and,Bool.true_and,rm_ways hl hv (emL_valid hs hg),foldAll_zero _ _ (by omega),em_pks (fun i hi=>by have:=hin i hi;omega)];rfl
end Go.Proofs.YtkeoflnmbcdmfaaGreatDoor
set_option maxRecDepth 8000
namespace Go.Proofs.YtkeoflnmbcdmfaaGreatDoor
open Go.ChangeShapes Go.WideShapes Go.ChangeAt Go.RowKit
theorem bits_iff {M u:Nat} {y:Int}:y∈bitsTo M u↔∃ t:Nat,y=(t:Int)/\1<=t/\t<=u/\M.testBit t=true:=by
 induction u with
 |zero=>simp [bitsTo];intro t _ h1 h2;omega
 |succ u ih=>
  simp only [bitsTo,List.mem_append,ih]
  constructor
  ·rintro (⟨t,h1,h2,h3,h4⟩|h)
   ·exact ⟨t,h1,h2,by omega,h4⟩
   ·split at h
    ·next hb=>exact ⟨u+1,by simpa using h,by omega,Nat.le_refl _,hb⟩
    ·cases h
  ·rintro ⟨t,h1,h2,h3,h4⟩
   by_cases e:t=u+1
   ·subst e;right;rw [if_pos h4];simpa using h1
   ·left;exact ⟨t,h1,h2,by omega,h4⟩
theorem allW_mono {ms ms':List Int}:∀ (d:Nat) (vs ys:List Int),(∀ i,vs.length<=i->i<vs.length+d->∀ t,1<=t->t<=4->(nth ms i).toNat.testBit t=true->(nth ms' i).toNat.testBit t=true)->ys∈allW ms d vs->ys∈allW ms' d vs:=by
 intro d
 induction d with
 |zero=>intro vs ys _ h;exact h
 |succ d ih=>
  intro vs ys hb h;simp only [allW,List.mem_flatMap] at h ⊢;obtain ⟨x,hx,h⟩:=h;obtain ⟨t,rfl,t1,t2,t3⟩:=bits_iff.1 hx;refine ⟨(t:Int),bits_iff.2 ⟨t,rfl,t1,t2,hb _ (Nat.le_refl _) (by omega) t t1 t2 t3⟩,ih _ _ (fun i h1 h2=>?_) h⟩;rw [List.length_append,List.length_singleton] at h1 h2;exact hb i (by omega) (by omega)
theorem em_bits:∀ s∈[2,3,4],∀ v,v<5->v<=s->∀ t,t<5->1<=t->(2^v).testBit t=true->(2^(s+1)-2).testBit t=true:=by decide
theorem emL_nth {g:List Int} {s:Nat} {i:Nat} (h:i<g.length):(nth (emL g s) i).toNat=emN g s i:=by
 unfold emL;rw [mapTo_nth h]
 simp [emG]
theorem rp_mono {k v:Int} {s:Nat} {xs g g':List Int} (hv:rv k xs v s=true) (hg:gv g s=true) (hg':gv g' s=true) (hs:s∈[2,3,4]) (h:∀ i,i<g.length->nth g' i=nth g i\/nth g' i=0) (hp:rpB k xs v g s=true):rpB k xs v g' s=true:=by
 obtain ⟨_,_,_,hx⟩:=rv_facts rfl hv;have hl:=gv_len hg;have hl':=gv_len hg';rw [rp_ways rfl hv hg hs] at hp;rw [rp_ways rfl hv hg' hs];simp only [Bool.not_eq_true',List.isEmpty_eq_false_iff_exists_mem,List.mem_filter] at hp ⊢;obtain ⟨ys,hy,hh⟩:=hp;refine ⟨ys,allW_mono _ _ _ (fun i _ hi t t1 t4 hb=>?_) hy,hh⟩
 have hi':i<xs.length:=by simpa using hi
 rw [emL_nth (by rw [pks_length];exact hi')] at hb ⊢;obtain ⟨x0,x1⟩:=hx i hi'
 have hlt:(nth xs i).toNat<g.length:=by omega
 unfold emN at hb ⊢;rw [pks_nth hi'] at hb ⊢;obtain ⟨v0,v4⟩:=gv_nth hg hlt;have h24:=gv_size hg
 rcases h _ hlt with e|e
 ·rw [e];exact hb
 ·rw [if_pos e]
  split at hb
  ·exact hb
  ·exact em_bits s hs _ (by omega) (by omega) t (by omega) t1 hb
theorem gv_put {g:List Int} {s:Int} (hg:gv g s=true) (c:Nat):gv (g.set c 0) s=true:=by
 obtain ⟨h2,h4⟩:=gv_size hg;have hl:=gv_len hg
 have h1:inr s 2 4=true:=by simp [inr];omega
 have h3:(g.set c 0).all (fun x=>inr x 0 s)=true:=by
  refine okTo_all (n:=g.length) (fun j hj=>?_) (by simp)
  by_cases e:j=c
  ·subst e;rw [show nth (g.set j 0) j=0 by simp [nth,List.getD_eq_getElem?_getD,hj]];simp [inr];omega
  ·rw [show nth (g.set c 0) j=nth g j by simp [nth,List.getD_eq_getElem?_getD,List.getElem?_set_ne (fun e'=>e e'.symm)]];have:=gv_nth hg hj
   simp [inr];omega
 simp [gv,h1,h3,hl]
theorem gv_zeros {g:List Int} {s:Int} (hg:gv g s=true):gv (zeros g.length) s=true:=by
 obtain ⟨h2,h4⟩:=gv_size hg;have hl:=gv_len hg
 have h1:inr s 2 4=true:=by simp [inr];omega
 have h3:(zeros g.length).all (fun x=>inr x 0 s)=true:=by
  simp only [zeros,List.all_eq_true,List.mem_replicate];rintro x ⟨_,rfl⟩
  simp [inr];omega
 have h5:(zeros g.length).length=g.length:=by simp [zeros]
 simp [gv,h1,h3,h5,hl]
theorem rp_less {k v s:Int} {xs g:List Int} (hv:rv k xs v s=true) (hg:gv g s=true) (hp:rpB k xs v g s=true) (c:Nat):rpB k xs v (g.set c 0) s=true/\rpB k xs v (zeros g.length) s=true:=by
 obtain ⟨h2,h4⟩:=gv_size hg;obtain ⟨t,rfl⟩:=Int.eq_ofNat_of_zero_le (by omega:0<=s)
 have hs:t∈[2,3,4]:=by simp;omega
 refine ⟨rp_mono hv hg (gv_put hg c) hs (fun i hi=>?_) hp,rp_mono hv hg (gv_zeros hg) hs (fun i hi=>.inr ?_) hp⟩
 ·by_cases e:i=c
  ·subst e;right;simp [nth,List.getD_eq_getElem?_getD,hi]
  ·left;simp [nth,List.getD_eq_getElem?_getD,List.getElem?_set_ne (fun e'=>e e'.symm)]
 ·simp [nth,zeros,List.getD_eq_getElem?_getD,hi]
theorem allW_one {ms zs:List Int}:∀ (d:Nat) (vs:List Int),zs.length=vs.length+d->(∀ i,i<vs.length->nth vs i=nth zs i)->(∀ i,vs.length<=i->i<vs.length+d->bitsTo (nth ms i).toNat 4=[nth zs i])->allW ms d vs=[zs]:=by
 intro d
 induction d with
 |zero=>
  intro vs hl hv _;have:vs=zs:=ext_nth (by omega) (fun i hi=>hv i hi)
  simp [allW,this]
 |succ d ih=>
  intro vs hl hv hb;simp only [allW];rw [hb _ (Nat.le_refl _) (by omega)];simp only [List.flatMap_cons,List.flatMap_nil,List.append_nil];refine ih _ (by simp;omega) (fun i hi=>?_) (fun i h1 h2=>?_)
  ·rw [List.length_append,List.length_singleton] at hi;rw [nth_push rfl]
   split
   ·exact hv i (by assumption)
   ·obtain rfl:i=vs.length:=by omega
    rw [if_pos rfl]
  ·rw [List.length_append,List.length_singleton] at h1 h2;exact hb i (by omega) (by omega)
theorem bits_pow:∀ v:Nat,v<5->1<=v->bitsTo (2^v) 4=[(v:Int)]:=by decide
theorem rp_full {k v s:Int} {xs g:List Int} (hv:rv k xs v s=true) (hg:gv g s=true) (hf:∀ i,i<xs.length->nth (pks g xs xs.length) i≠0):rpB k xs v g s=holdsB k v (pks g xs xs.length):=by
 obtain ⟨h2,h4⟩:=gv_size hg;obtain ⟨t,rfl⟩:=Int.eq_ofNat_of_zero_le (by omega:0<=s)
 have hs:t∈[2,3,4]:=by simp;omega
 obtain ⟨hsm,_⟩:=pks_small rfl hv hg;rw [rp_ways rfl hv hg hs]
 have:allW (emL (pks g xs xs.length) t) xs.length []=[pks g xs xs.length]:=by
  refine allW_one _ _ (by simp [pks_length]) (fun i hi=>absurd hi (by simp)) (fun i _ hi=>?_)
  have hi':i<xs.length:=by simpa using hi
  rw [emL_nth (by rw [pks_length];exact hi')];unfold emN;rw [if_neg (hf i hi')];have:=hsm i hi';have hne:=hf i hi';rw [bits_pow _ (by omega) (by omega)]
  congr 1
  omega
 rw [this]
 cases hh:holdsB k v (pks g xs xs.length)<;>simp [hh]
theorem mem_ne {zs:List Int} {n:Nat} (h:memTo zs 0 n=false):∀ i,i<n->nth zs i≠0:=fun i hi e=>by rw [memTo_hit hi e] at h;cases h
theorem rh_rp {k v s:Int} {xs g:List Int} (h:rhB k xs v g s=true):rpB k xs v g s=true:=by
 unfold rhB at h;simp only [Bool.and_eq_true,Bool.not_eq_true'] at h;obtain ⟨⟨⟨hv,hg⟩,hm⟩,hh⟩:=h;rw [rp_full hv hg (mem_ne hm)];exact hh
theorem cnz_all {xs:List Int}:∀ {n:Nat},cnz xs n=n->∀ k,k<n->nth xs k≠0:=by
 intro n
 induction n with
 |zero=>intro _ k hk;omega
 |succ n ih=>
  intro h k hk;simp only [cnz] at h;have hle:=cnz_le xs n
  split at h
  ·omega
  ·next hz=>
   by_cases e:k=n
   ·subst e;exact hz
   ·exact ih (by omega) k (by omega)
theorem rh_full {k v s:Int} {xs g:List Int} (hv:rv k xs v s=true) (hg:gv g s=true) (hf:cnz g g.length=g.length):rhB k xs v g s=rpB k xs v g s:=by
 obtain ⟨_,_,_,hx⟩:=rv_facts rfl hv;have hl:=gv_len hg;have hall:=cnz_all hf
 have hne:∀ i,i<xs.length->nth (pks g xs xs.length) i≠0:=fun i hi=>by
  rw [pks_nth hi];obtain ⟨a,b⟩:=hx i hi;exact hall _ (by omega)
 have hm:memTo (pks g xs xs.length) 0 xs.length=false:=by
  cases e:memTo (pks g xs xs.length) 0 xs.length
  ·rfl
  ·exfalso
   have:∀ n,n<=xs.length->memTo (pks g xs xs.length) 0 n=false:=by
    intro n
    induction n with
    |zero=>intro _;rfl
    |succ n ih=>intro hn;simp only [memTo,Bool.or_eq_false_iff,beq_eq_false_iff_ne];exact ⟨ih (by omega),hne n (by omega)⟩
   rw [this _ (Nat.le_refl _)] at e;cases e
 rw [rp_full hv hg hne];unfold rhB;rw [hv,hg,hm]
 simp
end Go.Proofs.YtkeoflnmbcdmfaaGreatDoor
set_option maxRecDepth 8000
namespace Go.Proofs.YtkeoflnmbcdmfaaGreatDoor
open Go.ChangeShapes Go.WideShapes Go.ChangeAt Go.RowKit
def Code_ (w:World) (A:Option Addr) (n c:Nat) (bs:List Int):Prop:=RdB w w.heap.size A n bs/\n<=c/\c<=9223372036854775807
theorem code_of_row {w:World} {a:Option Addr} {len cap:Nat} {zs:List Int} (h:IsRow .u8 w a len cap zs):Code_ w a len cap (zs.take len):=by
 refine ⟨rdB_of_row h,?_⟩
 rcases h with ⟨rfl,rfl,rfl,rfl⟩|⟨x,rfl,hl,hm,_⟩
 ·omega
 ·simp only [maxLen] at hm;omega
theorem alive_any (w:World):Calls Tryz.prog 18 #[] w fun e w'=>e=.returned (.bool true)/\Below w.heap.size w w':=by
 have hrd:Rd (w.alloc (.cells #[.int .i64 1,.int .i64 0,.int .i64 0,.int .i64 2] 3)) (w.heap.size+1) (some ⟨w.heap.size,0,none⟩) 4 [1,0,0,2]:=by
  refine ⟨rfl,fun _=>⟨w.heap.size,0,rfl,by omega,fun k hk=>?_⟩⟩;rw [cell_of_row _ _ (0+k) _ _ _ (heap_alloc_new w _)]
  have:k=0\/k=1\/k=2\/k=3:=by omega
  rcases this with rfl|rfl|rfl|rfl<;>rfl
 have hgf:=Lib.hid (show gf [1,0,0,2] 2=2 by decide)
 go_enter Tryz.func18,Tryz.ntmps18
 go_wp2_with fail
 refine (implGridFilled _ _ _ _ _ _ _ hrd (by simp) (by omega)).mono ?_;rintro e w1 ⟨rfl,hb⟩;rw [hgf.out]
 go_wp2
 go_ret
 exact ⟨rfl,box_below hb⟩
end Go.Proofs.YtkeoflnmbcdmfaaGreatDoor
namespace Go.Proofs.YtkeoflnmbcdmfaaGreatDoor
open Go.ChangeShapes Go.WideShapes Go.ChangeAt Go.RowKit
theorem toIntS_any (A:Option Addr) (c n B:Nat) (xs:List Int) (w:World) (h:Rd w B A n xs) (hB:B<=w.heap.size) (hm:n<=1099511627776):
 Calls Tryz.prog 87 #[.slice A n c] w fun e w'=>e=.returned (.slice (some ⟨w.heap.size,0,none⟩) n n)/\Ow w' w.heap.size (some ⟨w.heap.size,0,none⟩) n n xs/\Below w.heap.size w w':=by
 obtain ⟨i0,hi,hz0,hz1,hz2⟩:=info_parts int_info;have hlen:=Lib.hid h.1
 go_enter Tryz.func87,Tryz.ntmps87
 go_wp2_with (refine wpList_make_full _ rfl (.tmp 6) (.tmp 6) 23 rfl w.heap.size 3 i0 (.int .i64 0) 1 Tryz.underlying23 hi hz0 hz1 .i64 .i64 n n n rfl rfl rfl rfl ?_ ?_ (Nat.le_refl _) ?_)
 ·rw [hz2];omega
 ·simp only [maxLen];omega
 ·intro w1 hown hgr
  have hown1:Ow w1 w.heap.size (some ⟨w.heap.size,0,none⟩) n n (part xs 0 n):=by
   unfold Ow;rw [part_zero,<-toList_madeCells_one];exact hown
  have hb1:Below w.heap.size w w1:=(Below.refl _ _).grown hgr (Nat.le_refl _) (fun k hk=>by cases hk);clear hown hgr
  go_wp2
  go_loopw [4] (fun i wr=>∃ k:Nat,k<=n/\i=.int .i64 k/\Ow wr w.heap.size (some ⟨w.heap.size,0,none⟩) n n (part xs k n)/\Below w.heap.size w wr) (fun i _=>n-(intOf i).toNat)
  case atStart=>exact ⟨0,Nat.zero_le _,rfl,hown1,hb1⟩
  case round=>
   obtain ⟨k,hk,rfl,ho,hb⟩:=hrel
   by_cases hlt:k<n
   ·obtain ⟨b,off,rfl,hbB,hck⟩:=(h.below (hb.mono hB)).at_ hlt;have hold:=World.ownsRow.cellAt ho k (by omega);rw [vals_get (by rw [part_length];exact hlt)] at hold;have hfr:=World.ownsRow.frozenAt ho k;have hst:=World.ownsRow.stored ho k (.int .i64 (nth xs k));rw [part_set] at hst;have Hst:=Lib.hid hst;clear hst
    go_wp2
    go_roundw
    case rel=>exact ⟨k+1,by omega,by go_num,Hst.out.1,hb.setCell (Nat.le_refl _) _⟩
    case measure=>simp [intOf];omega
   ·obtain rfl:k=n:=by omega
    go_wp2
    go_ret
    refine ⟨rfl,?_,hb⟩;have e:=part_all xs;rw [hlen.out] at e;rw [e] at ho;exact ho
theorem eqIntS_any (A A':Option Addr) (c c' n n' B B':Nat) (xs ys:List Int) (w:World) (h:Rd w B A n xs) (h':Rd w B' A' n' ys) (hm:n<=1099511627776):
 Calls Tryz.prog 54 #[.slice A n c,.slice A' n' c'] w fun e w'=>e=.returned (.bool (same xs ys))/\Below w.heap.size w w':=by
 have hl:=Lib.hid h.1;have hl':=Lib.hid h'.1
 by_cases hnn:n=n'
 ·subst hnn
  go_enter Tryz.func54,Tryz.ntmps54
  go_wp2
  go_loopw [5] (fun i wr=>∃ k:Nat,k<=n/\i=.int .i64 k/\eqTo xs ys k/\Below w.heap.size w wr/\Rd wr B A n xs/\Rd wr B' A' n ys) (fun i _=>n-(intOf i).toNat)
  case atStart=>exact ⟨0,Nat.zero_le _,rfl,eqTo_zero,Below.refl _ _,h,h'⟩
  case round=>
   obtain ⟨k,hk,rfl,heq,hb,hr,hr'⟩:=hrel
   by_cases hlt:k<n
   ·obtain ⟨b,off,rfl,hbB,hck⟩:=hr.at_ hlt;obtain ⟨b',off',rfl,hbB',hck'⟩:=hr'.at_ hlt;have hltI:(k:Int)<(n:Int):=(by omega)
    by_cases e:nth xs k=nth ys k
    ·have hne:(nth xs k != nth ys k)=false:=(by simp [e]);have He:=Lib.hid e;clear e
     go_wp2
     go_quiet (fail)
     go_wp2
     go_roundw
     case rel=>exact ⟨k+1,by omega,by go_num,eqTo_succ heq He.out,below_drewN hb _,hr,hr'⟩
     case measure=>simp [intOf];omega
    ·have hne:(nth xs k != nth ys k)=true:=(by simp [e]);have He:=Lib.hid e;clear e
     go_wp2
     go_quiet (fail)
     go_wp2
     go_ret
     exact ⟨by rw [same_f He.out];rfl,below_drewN hb _⟩
   ·obtain rfl:k=n:=by omega
    go_wp2
    go_ret
    exact ⟨by rw [same_t hl.out hl'.out heq];rfl,hb⟩
 ·have hne:((n:Int) != (n':Int))=true:=by rw [bne_iff_ne];omega
  go_enter Tryz.func54,Tryz.ntmps54
  go_wp2
  go_ret
  exact ⟨by rw [same_len (by rw [hl.out,hl'.out];exact hnn)];rfl,Below.refl _ _⟩
theorem sameInts_any (A A':Option Addr) (c c' n n' B B':Nat) (xs ys:List Int) (w:World) (h:Rd w B A n xs) (h':Rd w B' A' n' ys) (hm:n<=1099511627776):
 Calls Tryz.prog 24 #[.slice A n c,.slice A' n' c'] w fun e w'=>e=.returned (.bool (same xs ys))/\Below w.heap.size w w':=by
 have hl:=Lib.hid h.1;have hl':=Lib.hid h'.1
 by_cases hnn:n=n'
 ·subst hnn
  go_enter Tryz.func24,Tryz.ntmps24
  go_wp2
  go_loopw [5] (fun i wr=>∃ k:Nat,k<=n/\i=.int .i64 k/\eqTo xs ys k/\Below w.heap.size w wr/\Rd wr B A n xs/\Rd wr B' A' n ys) (fun i _=>n-(intOf i).toNat)
  case atStart=>exact ⟨0,Nat.zero_le _,rfl,eqTo_zero,Below.refl _ _,h,h'⟩
  case round=>
   obtain ⟨k,hk,rfl,heq,hb,hr,hr'⟩:=hrel
   by_cases hlt:k<n
   ·obtain ⟨b,off,rfl,hbB,hck⟩:=hr.at_ hlt;obtain ⟨b',off',rfl,hbB',hck'⟩:=hr'.at_ hlt;have hltI:(k:Int)<(n:Int):=(by omega)
    by_cases e:nth xs k=nth ys k
    ·have hne:(nth xs k != nth ys k)=false:=(by simp [e]);have He:=Lib.hid e;clear e
     go_wp2
     go_quiet (fail)
     go_wp2
     go_roundw
     case rel=>exact ⟨k+1,by omega,by go_num,eqTo_succ heq He.out,below_drewN hb _,hr,hr'⟩
     case measure=>simp [intOf];omega
    ·have hne:(nth xs k != nth ys k)=true:=(by simp [e]);have He:=Lib.hid e;clear e
     go_wp2
     go_quiet (fail)
     go_wp2
     go_ret
     exact ⟨by rw [same_f He.out];rfl,below_drewN hb _⟩
   ·obtain rfl:k=n:=by omega
    go_wp2
    go_ret
    exact ⟨by rw [same_t hl.out hl'.out heq];rfl,hb⟩
 ·have hne:((n:Int) != (n':Int))=true:=by rw [bne_iff_ne];omega
  go_enter Tryz.func24,Tryz.ntmps24
  go_wp2
  go_ret
  exact ⟨by rw [same_len (by rw [hl.out,hl'.out];exact hnn)];rfl,Below.refl _ _⟩
theorem markIntS_any (A:Option Addr) (c n lo:Nat) (xs:List Int) (m:Int) (w:World) (h:Ow w lo A n c xs) (hm:n<=1099511627776) (h0:0<=m) (h1:m<=4611686018427387904):
 Calls Tryz.prog 55 #[.slice A n c,.int .i64 m] w fun e w'=>e=.returned (.int .i64 (m+n))/\Ow w' lo A n c (marked xs m n n)/\w.grownBy w' (Value.slice A n c).ownBlock:=by
 have hlen:=Lib.hid h.len
 go_enter Tryz.func55,Tryz.ntmps55
 go_wp2
 go_loopw [1,5] (fun q i wr=>∃ k:Nat,k<=n/\i=.int .i64 k/\q=.int .i64 (m+k)/\Ow wr lo A n c (marked xs m k n)/\w.grownBy wr (Value.slice A n c).ownBlock) (fun _ i _=>n-(intOf i).toNat)
 case atStart=>
  refine ⟨0,Nat.zero_le _,rfl,by simp,?_,World.grownBy.refl _ _⟩;have e:=marked_zero xs m;rw [hlen.out] at e;rw [e];exact h
 case round=>
  obtain ⟨k,hk,rfl,rfl,ho,hg⟩:=hrel
  by_cases hlt:k<n
  ·obtain ⟨g,rfl,hlog,hgw⟩:=ho.form (by omega);have hold:=World.ownsRow.cellAt ho k (by omega);rw [vals_get (by rw [marked_length];exact hlt)] at hold;have hfr:=World.ownsRow.frozenAt ho k;have hst:=World.ownsRow.stored ho k (.int .i64 (m+k));rw [marked_set] at hst;have Hst:=Lib.hid hst;clear hst
   go_wp2
   go_roundw
   case rel=>exact ⟨k+1,by omega,by go_num,by go_num,Hst.out.1,hg.trans Hst.out.2⟩
   case measure=>simp [intOf];omega
  ·obtain rfl:k=n:=by omega
   go_wp2
   go_ret
   exact ⟨rfl,ho,hg⟩
theorem heldIntS_seq (A:Option Addr) (c n B:Nat) (m:Int) (w:World) (h:Rd w B A n (seqI m n)) (hm:n<=1099511627776) (h0:0<=m) (h1:m<=1099511627776):
 Calls Tryz.prog 56 #[.slice A n c,.int .i64 m] w fun e w'=>e=.returned (.int .i64 (m+n))/\w=w':=by
 go_enter Tryz.func56,Tryz.ntmps56
 go_wp2
 go_loop [1,5] (fun q i=>∃ k:Nat,k<=n/\i=.int .i64 k/\q=.int .i64 (m+k)) (fun _ i=>n-(intOf i).toNat)
 case atStart=>exact ⟨0,Nat.zero_le _,rfl,by simp⟩
 case round=>
  obtain ⟨k,hk,rfl,rfl⟩:=hrel
  by_cases hlt:k<n
  ·obtain ⟨b,off,rfl,hbB,hck⟩:=h.at_ hlt;rw [seqI_nth hlt] at hck
   go_wp2
   go_round
   case rel=>exact ⟨k+1,by omega,by go_num,by go_num⟩
   case measure=>simp [intOf];omega
  ·obtain rfl:k=n:=by omega
   go_wp2
   go_ret
   exact ⟨rfl,rfl⟩
end Go.Proofs.YtkeoflnmbcdmfaaGreatDoor
set_option maxRecDepth 8000
namespace Go.Proofs.YtkeoflnmbcdmfaaGreatDoor
open Go.ChangeShapes Go.WideShapes Go.ChangeAt Go.RowKit
def zeroArr (n:Nat):Array Value:=madeCells #[.int .i64 0] n
theorem make_ints {n:Nat} (hn:n<=1099511627776) (w:World):(Instr.makeSlice 23 (.int .i64 (n:Int)) (.int .i64 (n:Int))).run Tryz.prog w=.ok (.slice (some ⟨w.heap.size,0,none⟩) n n) (w.alloc (.cells (zeroArr n) 3)):=by
 obtain ⟨i0,hi,hz0,hz1,hz2⟩:=info_parts int_info;have hr:=run_make (P:=Tryz.prog) w 23 3 i0 (.int .i64 0) Tryz.underlying23 hi hz0 .i64 .i64 (n:Int) (n:Int) (by omega) (Int.le_refl _) (by rw [hz2];omega) (by omega);rw [hz1,Int.toNat_natCast,Nat.mul_one] at hr;exact hr
theorem zeroArr_ow {n lo:Nat} (hn:n<=1099511627776) (w:World) (hlo:lo<=w.heap.size):Ow (w.alloc (.cells (zeroArr n) 3)) lo (some ⟨w.heap.size,0,none⟩) n n (zeros n):=by
 have hs:(zeroArr n).size=n*1:=by simp [zeroArr,madeCells]
 have h:=World.ownsRow_lit (e:=3) (size:=1) w (zeroArr n) n hlo (by simp only [maxLen];omega) hs;unfold Ow
 have e:(zeroArr n).toList=vals (zeros n):=by
  rw [zeroArr,toList_madeCells_one]
  simp [vals,zeros]
 rw [<- e];exact h
end Go.Proofs.YtkeoflnmbcdmfaaGreatDoor
namespace Go.Proofs.YtkeoflnmbcdmfaaGreatDoor
open Go.ChangeShapes Go.WideShapes Go.ChangeAt Go.RowKit
def turnIx (size:Int) (k:Nat):Nat:=((size-1-(k:Int)%size)*size+(k:Int)/size).toNat
def turnG (xs:List Int) (size:Int) (k:Nat):Int:=nth xs (turnIx size k)
def turnL (xs:List Int) (size:Int):List Int:=if gv xs size=true then mapTo (turnG xs size) xs.length else []
theorem turn_facts {size:Int} {n k:Nat} (h2:2<=size) (h4:size<=4) (hn:(n:Int)=size*size) (hk:k<n):
 (0<=(k:Int)%size/\(k:Int)%size<size)/\(0<=(k:Int)/size/\(k:Int)/size<size)/\turnIx size k<n/\((turnIx size k:Nat):Int)=(size-1-(k:Int)%size)*size+(k:Int)/size:=by
 unfold turnIx
 have:size=2\/size=3\/size=4:=by omega
 rcases this with rfl|rfl|rfl<;>omega
end Go.Proofs.YtkeoflnmbcdmfaaGreatDoor
namespace Go.Proofs.YtkeoflnmbcdmfaaGreatDoor
open Go.ChangeShapes Go.WideShapes Go.ChangeAt Go.RowKit
def cellIx (size row col:Int):Nat:=(row*size+col).toNat
theorem cell_facts {size row col:Int} {n:Nat} (h2:2<=size) (h4:size<=4) (hn:(n:Int)=size*size) (r0:0<=row) (r1:row<size) (c0:0<=col) (c1:col<size):
 (0<=row*size/\row*size<=12)/\cellIx size row col<n/\((cellIx size row col:Nat):Int)=row*size+col:=by
 unfold cellIx
 have:size=2\/size=3\/size=4:=by omega
 rcases this with rfl|rfl|rfl<;>omega
theorem ix_lt {r q s:Nat} (hr:r<s) (hq:q<s):r*s+q<s*s:=by
 have:(r+1)*s<=s*s:=Nat.mul_le_mul_right s hr;rw [Nat.succ_mul] at this;omega
theorem of_drew_below {w w2:World} (h:Below w.drew.heap.size w.drew w2):Below w.heap.size w w2:=⟨h.os,h.tape,h.output,h.size,h.block⟩
theorem below_drew' {B:Nat} {a w:World} (h:Below B a w):Below B a w.drew:=h.drew
theorem divmod_ix {s r c:Nat} (h2:2<=s) (h4:s<=4) (hr:r<s) (hc:c<s):((r*s+c:Nat):Int)/(s:Int)=r/\((r*s+c:Nat):Int)%(s:Int)=c:=by
 have:s=2\/s=3\/s=4:=by omega
 rcases this with rfl|rfl|rfl<;>omega
theorem turn_ix {s r c:Nat} (h2:2<=s) (h4:s<=4) (hr:r<s) (hc:c<s):cellIx s ((s:Int)-1-c) r=turnIx s (r*s+c):=by
 obtain ⟨hd,hm⟩:=divmod_ix h2 h4 hr hc;unfold cellIx turnIx;rw [hd,hm]
end Go.Proofs.YtkeoflnmbcdmfaaGreatDoor
namespace Go.Proofs.YtkeoflnmbcdmfaaGreatDoor
open Go.ChangeShapes Go.WideShapes Go.ChangeAt Go.RowKit
def mirIx (size:Int) (k:Nat):Nat:=((k:Int)/size*size+size-1-(k:Int)%size).toNat
def mirG (xs:List Int) (size:Int) (k:Nat):Int:=nth xs (mirIx size k)
def mirL (xs:List Int) (size:Int):List Int:=if gv xs size=true then mapTo (mirG xs size) xs.length else []
theorem mir_facts {size:Int} {n k:Nat} (h2:2<=size) (h4:size<=4) (hn:(n:Int)=size*size) (hk:k<n):
 (0<=(k:Int)%size/\(k:Int)%size<size)/\(0<=(k:Int)/size/\(k:Int)/size<size)/\mirIx size k<n/\((mirIx size k:Nat):Int)=(k:Int)/size*size+size-1-(k:Int)%size:=by
 unfold mirIx
 have:size=2\/size=3\/size=4:=by omega
 rcases this with rfl|rfl|rfl<;>omega
theorem mir_ix {s r c:Nat} (h2:2<=s) (h4:s<=4) (hr:r<s) (hc:c<s):cellIx s r ((s:Int)-1-c)=mirIx s (r*s+c):=by
 obtain ⟨hd,hm⟩:=divmod_ix h2 h4 hr hc;unfold cellIx mirIx;rw [hd,hm]
 congr 1
 omega
end Go.Proofs.YtkeoflnmbcdmfaaGreatDoor
namespace Go.Proofs.YtkeoflnmbcdmfaaGreatDoor
open Go.ChangeShapes Go.WideShapes Go.ChangeAt Go.RowKit
theorem Rd.take_ {w:World} {B:Nat} {A:Option Addr} {n:Nat} {xs:List Int} (h:Rd w B A n xs) {m:Nat} (hm:m<=n):Rd w B A m (xs.take m):=by
 refine ⟨by rw [List.length_take,h.1];omega,fun h0=>?_⟩;obtain ⟨b,off,he,hb,hc⟩:=h.2 (by omega);refine ⟨b,off,he,hb,fun k hk=>?_⟩;rw [hc k (by omega)]
 simp [nth,List.getD_eq_getElem?_getD,hk]
theorem gv_n {xs:List Int} {size:Int} {n:Nat} (h:gv xs size=true) (hl:xs.length=n):4<=n/\n<=16/\(n:Int)=size*size:=by
 obtain ⟨h2,h4⟩:=gv_size h;have:=gv_len h;obtain ⟨q4,q16⟩:=sq_bd h2 h4;rw [hl] at this;omega
theorem gv_short {xs:List Int} {size:Int} {n:Nat} (h:gv xs size=true) (hl:xs.length=n):gv (xs.take (n-1)) size=false:=by
 obtain ⟨h4,_,hn⟩:=gv_n h hl
 have e:((xs.take (n-1)).length:Int)=n-1:=by rw [List.length_take,hl];omega
 cases hg:gv (xs.take (n-1)) size
 ·rfl
 ·have:=gv_len hg;omega
theorem gv_large {xs:List Int} {size:Int} {n:Nat} (h:gv xs size=true) (hl:xs.length=n):gv (xs.set 0 (size+1)) size=false:=by
 obtain ⟨h4,_,hn⟩:=gv_n h hl;cases hg:gv (xs.set 0 (size+1)) size
 ·rfl
 ·have:=gv_nth hg (k:=0) (by rw [List.length_set,hl];omega);rw [nth_set (by omega),if_pos rfl] at this;omega
theorem copy_below {w w':World} (hg:(w.alloc (.cells #[] 3)).grownBy w' (Value.slice (some ⟨w.heap.size,0,none⟩) 0 0).ownBlock):Below w.heap.size w w':=
 ((Below.refl _ _).alloc (Nat.le_refl _) _).grown hg (by simp) (fun k hk=>(Ow.made0 w w.heap.size (Nat.le_refl _)).own_lo k hk)
theorem cnz_lt {xs:List Int} {k:Nat} {v:Int} (hk:k<xs.length):∀ m,m<=k->cnz (xs.set k v) m=cnz xs m:=by
 intro m
 induction m with
 |zero=>intro _;rfl
 |succ m ih=>
  intro hm;simp only [cnz]
  have e:k≠m:=by omega
  rw [ih (by omega),nth_set hk,if_neg e]
theorem cnz_set {xs:List Int} {k:Nat} (hk:k<xs.length) (h:nth xs k≠0):∀ m,k<m->cnz (xs.set k 0) m+1=cnz xs m:=by
 intro m
 induction m with
 |zero=>intro hm;omega
 |succ m ih=>
  intro hm;simp only [cnz]
  by_cases e:k=m
  ·subst e;rw [cnz_lt hk k (Nat.le_refl _),nth_set hk,if_pos rfl,if_pos rfl,if_neg h]
  ·rw [nth_set hk,if_neg e];have:=ih (by omega);omega
theorem gv_set0 {xs:List Int} {size:Int} {n k:Nat} (h:gv xs size=true) (hl:xs.length=n):gv (xs.set k 0) size=true:=by
 obtain ⟨h2,h4⟩:=gv_size h;refine okAll_gv (n:=n) (by simpa using hl) (gv_n h hl).2.2 h2 h4 (okAll_set' (fun j hj=>gv_nth h (by omega)) (by omega) (by omega))
theorem gf_set {xs:List Int} {size:Int} {k:Nat} (h:gv xs size=true) (hk:k<xs.length) (h0:nth xs k≠0):gf (xs.set k 0) size=gf xs size-1:=by
 have:=cnz_set hk h0 xs.length hk;unfold gf;rw [if_pos h,if_pos (gv_set0 h rfl),List.length_set];omega
theorem cnz_zeros (n m:Nat):cnz (zeros n) m=0:=by
 induction m with
 |zero=>rfl
 |succ m ih=>rw [cnz,ih,zeros_nth];rfl
theorem gf_zeros {size:Int} {n:Nat} (h2:2<=size) (h4:size<=4) (hn:(n:Int)=size*size):gf (zeros n) size=0:=by
 have hg:gv (zeros n) size=true:=okAll_gv (zeros_length n) hn h2 h4 (okAll_zeros (by omega) n);unfold gf;rw [if_pos hg,cnz_zeros];rfl
end Go.Proofs.YtkeoflnmbcdmfaaGreatDoor
namespace Go.Proofs.YtkeoflnmbcdmfaaGreatDoor
open Go.ChangeShapes Go.WideShapes Go.ChangeAt Go.RowKit
def pm (xs:List Int) (P:Nat->Nat) (n:Nat):List Int:=mapTo (fun k=>nth xs (P k)) n
theorem pm_length (xs:List Int) (P:Nat->Nat) (n:Nat):(pm xs P n).length=n:=mapTo_length _ _
theorem pm_nth {xs:List Int} {P:Nat->Nat} {n k:Nat} (h:k<n):nth (pm xs P n) k=nth xs (P k):=mapTo_nth h
theorem pm_pm {xs:List Int} {P Q:Nat->Nat} {n:Nat} (h:∀ k,k<n->P k<n):pm (pm xs Q n) P n=pm xs (fun k=>Q (P k)) n:=by
 apply ext_nth (by rw [pm_length,pm_length])
 intro k hk;rw [pm_length] at hk;rw [pm_nth hk,pm_nth (h k hk),pm_nth hk]
theorem pm_id {xs:List Int} {P:Nat->Nat} {n:Nat} (hl:xs.length=n) (h:∀ k,k<n->P k=k):pm xs P n=xs:=by
 apply ext_nth (by rw [pm_length,hl])
 intro k hk;rw [pm_length] at hk;rw [pm_nth hk,h k hk]
theorem pm_eq {xs:List Int} {P Q:Nat->Nat} {n:Nat} (h:∀ k,k<n->P k=Q k):pm xs P n=pm xs Q n:=by
 apply ext_nth (by rw [pm_length,pm_length])
 intro k hk;rw [pm_length] at hk;rw [pm_nth hk,pm_nth hk,h k hk]
theorem pm_gv {xs:List Int} {size:Int} {P:Nat->Nat} {n:Nat} (hg:gv xs size=true) (hl:xs.length=n) (h:∀ k,k<n->P k<n):gv (pm xs P n) size=true:=by
 obtain ⟨h2,h4⟩:=gv_size hg;refine okAll_gv (pm_length _ _ _) (gv_n hg hl).2.2 h2 h4 (fun k hk=>?_);rw [pm_nth hk];exact gv_nth hg (by rw [hl];exact h k hk)
theorem cnz_sum (xs:List Int) (n:Nat):cnz xs n=((List.range n).map fun k=>if nth xs k=0 then 0 else 1).sum:=by
 induction n with
 |zero=>rfl
 |succ n ih=>simp [cnz,ih,List.range_succ]
theorem pm_cnz {xs:List Int} {P:Nat->Nat} {n:Nat} (hp:(List.map P (List.range n)).Perm (List.range n)):cnz (pm xs P n) n=cnz xs n:=by
 rw [cnz_sum,cnz_sum]
 have h1:(List.range n).map (fun k=>if nth (pm xs P n) k=0 then 0 else 1)=(List.map P (List.range n)).map (fun k=>if nth xs k=0 then 0 else 1):=by
  rw [List.map_map]
  apply List.map_congr_left
  intro k hk
  have:k<n:=by simpa using hk
  simp only [Function.comp,pm_nth this]
 rw [h1];exact (hp.map _).sum_nat
theorem pm_gf {xs:List Int} {size:Int} {P:Nat->Nat} {n:Nat} (hg:gv xs size=true) (hl:xs.length=n) (h:∀ k,k<n->P k<n) (hp:(List.map P (List.range n)).Perm (List.range n)):gf (pm xs P n) size=gf xs size:=by
 unfold gf;rw [if_pos hg,if_pos (pm_gv hg hl h),pm_length,pm_cnz hp,hl]
theorem size_nat {xs:List Int} {size:Int} (hg:gv xs size=true):∃ s:Nat,size=s/\s∈[2,3,4]/\xs.length=s*s:=by
 obtain ⟨h2,h4⟩:=gv_size hg;obtain ⟨s,rfl⟩:=Int.eq_ofNat_of_zero_le (by omega:0<=size);refine ⟨s,rfl,by simp;omega,?_⟩;have:=gv_len hg;rw [<- Int.natCast_mul] at this;omega
theorem turn_lt:∀ s∈[2,3,4],∀ k,k<s*s->turnIx (s:Nat) k<s*s:=by decide +kernel
theorem turn_perm:∀ s∈[2,3,4],(List.map (turnIx (s:Nat)) (List.range (s*s))).Perm (List.range (s*s)):=by decide +kernel
theorem turn_four:∀ s∈[2,3,4],∀ k,k<s*s->turnIx (s:Nat) (turnIx (s:Nat) (turnIx (s:Nat) (turnIx (s:Nat) k)))=k:=by decide +kernel
theorem turn_edge:∀ s∈[2,3,4],∀ k,k<s->turnIx (s:Nat) (k*s+s-1)=k:=by decide +kernel
structure TurnFacts (xs:List Int) (size:Int) (n:Nat):Prop where
 len:(turnL xs size).length=n
 valid:gv (turnL xs size) size=true
 four:turnL (turnL (turnL (turnL xs size) size) size) size=xs
 filled:gf (turnL xs size) size=gf xs size
 edge:∀ k:Nat,(k:Int)<size->nth (turnL xs size) ((k:Int)*size+size-1).toNat=nth xs k
theorem turnL_pm {xs:List Int} {size:Int} {n:Nat} (hg:gv xs size=true) (hl:xs.length=n):turnL xs size=pm xs (turnIx size) n:=by
 unfold turnL;rw [if_pos hg,hl];rfl
theorem turn_all {xs:List Int} {size:Int} {n:Nat} (hg:gv xs size=true) (hl:xs.length=n):TurnFacts xs size n:=by
 obtain ⟨s,rfl,hs,hls⟩:=size_nat hg
 have hn:n=s*s:=by rw [<- hl,hls]
 subst hn;have lt:=turn_lt s hs;have e1:=turnL_pm hg hl
 have g1:gv (turnL xs s) s=true:=by rw [e1];exact pm_gv hg hl lt
 have l1:(turnL xs s).length=s*s:=by rw [e1,pm_length]
 have e2:=turnL_pm g1 l1
 have g2:gv (turnL (turnL xs s) s) s=true:=by rw [e2];exact pm_gv g1 l1 lt
 have l2:(turnL (turnL xs s) s).length=s*s:=by rw [e2,pm_length]
 have e3:=turnL_pm g2 l2
 have g3:gv (turnL (turnL (turnL xs s) s) s) s=true:=by rw [e3];exact pm_gv g2 l2 lt
 have l3:(turnL (turnL (turnL xs s) s) s).length=s*s:=by rw [e3,pm_length]
 have e4:=turnL_pm g3 l3;refine ⟨l1,g1,?_,?_,?_⟩
 ·rw [e4,e3,e2,e1,pm_pm lt,pm_pm (fun k hk=>lt _ (lt k hk)),pm_pm (fun k hk=>lt _ (lt _ (lt k hk)))];exact pm_id hl (turn_four s hs)
 ·rw [e1];exact pm_gf hg hl lt (turn_perm s hs)
 ·intro k hk
  have hks:k<s:=by omega
  have hi:k*s+s-1<s*s:=by
   have:=ix_lt hks (by omega:s-1<s);omega
  have e:((k:Int)*(s:Int)+(s:Int)-1).toNat=k*s+s-1:=by
   rw [<- Int.natCast_mul];omega
  rw [e,e1,pm_nth hi,turn_edge s hs k hks]
theorem mir_lt:∀ s∈[2,3,4],∀ k,k<s*s->mirIx (s:Nat) k<s*s:=by decide +kernel
theorem mir_two:∀ s∈[2,3,4],∀ k,k<s*s->mirIx (s:Nat) (mirIx (s:Nat) k)=k:=by decide +kernel
theorem mir_turn:∀ s∈[2,3,4],∀ k,k<s*s->mirIx (s:Nat) (turnIx (s:Nat) k)=turnIx (s:Nat) (turnIx (s:Nat) (turnIx (s:Nat) (mirIx (s:Nat) k))):=by decide +kernel
structure MirFacts (xs:List Int) (size:Int) (n:Nat):Prop where
 len:(mirL xs size).length=n
 valid:gv (mirL xs size) size=true
 two:mirL (mirL xs size) size=xs
 turned:turnL (mirL xs size) size=mirL (turnL (turnL (turnL xs size) size) size) size
theorem mirL_pm {xs:List Int} {size:Int} {n:Nat} (hg:gv xs size=true) (hl:xs.length=n):mirL xs size=pm xs (mirIx size) n:=by
 unfold mirL;rw [if_pos hg,hl];rfl
theorem mir_all {xs:List Int} {size:Int} {n:Nat} (hg:gv xs size=true) (hl:xs.length=n):MirFacts xs size n:=by
 obtain ⟨s,rfl,hs,hls⟩:=size_nat hg
 have hn:n=s*s:=by rw [<- hl,hls]
 subst hn;have lt:=turn_lt s hs;have ltm:=mir_lt s hs;have e1:=mirL_pm hg hl
 have g1:gv (mirL xs s) s=true:=by rw [e1];exact pm_gv hg hl ltm
 have l1:(mirL xs s).length=s*s:=by rw [e1,pm_length]
 have t1:=turnL_pm hg hl
 have h1:gv (turnL xs s) s=true:=by rw [t1];exact pm_gv hg hl lt
 have m1:(turnL xs s).length=s*s:=by rw [t1,pm_length]
 have t2:=turnL_pm h1 m1
 have h2:gv (turnL (turnL xs s) s) s=true:=by rw [t2];exact pm_gv h1 m1 lt
 have m2:(turnL (turnL xs s) s).length=s*s:=by rw [t2,pm_length]
 have t3:=turnL_pm h2 m2
 have h3:gv (turnL (turnL (turnL xs s) s) s) s=true:=by rw [t3];exact pm_gv h2 m2 lt
 have m3:(turnL (turnL (turnL xs s) s) s).length=s*s:=by rw [t3,pm_length]
 refine ⟨l1,g1,?_,?_⟩
 ·rw [mirL_pm g1 l1,e1,pm_pm ltm];exact pm_id hl (mir_two s hs)
 ·rw [turnL_pm g1 l1,mirL_pm h3 m3,t3,t2,t1,e1,pm_pm lt,pm_pm ltm,pm_pm (fun k hk=>lt _ (ltm k hk)),pm_pm (fun k hk=>lt _ (lt _ (ltm k hk)))];exact pm_eq (mir_turn s hs)
end Go.Proofs.YtkeoflnmbcdmfaaGreatDoor
namespace Go.Proofs.YtkeoflnmbcdmfaaGreatDoor
open Go.ChangeShapes Go.WideShapes Go.ChangeAt Go.RowKit
theorem hasTo_iff {f:Nat->Int} {k:Nat} {v:Int}:hasTo f k v=true↔∃ i,i<k/\f i=v:=by
 simp [hasTo]
theorem dupTo_iff {f:Nat->Int} {n:Nat}:dupTo f n=true↔∃ i j,i<j/\j<n/\f i=f j/\0<f j:=by
 induction n with
 |zero=>simp [dupTo]
 |succ n ih=>
  rw [dupTo,Bool.or_eq_true,ih,Bool.and_eq_true,hasTo_iff,decide_eq_true_eq]
  constructor
  ·rintro (⟨i,j,h1,h2,h3⟩|⟨h0,i,hi,he⟩)
   ·exact ⟨i,j,h1,by omega,h3⟩
   ·exact ⟨i,n,hi,by omega,he,h0⟩
  ·rintro ⟨i,j,h1,h2,h3,h4⟩
   by_cases e:j=n
   ·subst e;exact .inr ⟨h4,i,h1,h3⟩
   ·exact .inl ⟨i,j,h1,by omega,h3,h4⟩
theorem clashTo_iff {xs:List Int} {size:Int} {n:Nat}:clashTo xs size n=true↔∃ l,l<n/\dupTo (lineV xs size (l:Nat)) size.toNat=true:=by
 induction n with
 |zero=>simp [clashTo]
 |succ n ih=>
  rw [clashTo,Bool.or_eq_true,ih]
  constructor
  ·rintro (⟨l,h1,h2⟩|h)
   ·exact ⟨l,by omega,h2⟩
   ·exact ⟨n,by omega,h⟩
  ·rintro ⟨l,h1,h2⟩
   by_cases e:l=n
   ·subst e;exact .inr h2
   ·exact .inl ⟨l,by omega,h2⟩
def adj (s i j:Nat):Bool:=i != j&&(i/s==j/s||i%s==j%s)
def adjLine (s i j:Nat):Bool:=(List.range (2*s)).any fun l=>(List.range s).any fun a=>(List.range s).any fun b=>a != b&&((lineAt (s:Nat) (l:Nat) a).toNat==i&&(lineAt (s:Nat) (l:Nat) b).toNat==j)
theorem adj_line0:∀ s∈[2,3,4],∀ i,i<s*s->∀ j,j<s*s->adj s i j=true->adjLine s i j=true:=by decide +kernel
theorem adj_line (s:Nat) (hs:s∈[2,3,4]) (i:Nat) (hi:i<s*s) (j:Nat) (hj:j<s*s) (h:adj s i j=true):∃ l,l<2*s/\∃ a,a<s/\∃ b,b<s/\a≠b/\(lineAt (s:Nat) (l:Nat) a).toNat=i/\(lineAt (s:Nat) (l:Nat) b).toNat=j:=by
 have:=adj_line0 s hs i hi j hj h;simp only [adjLine,List.any_eq_true,List.mem_range,Bool.and_eq_true,bne_iff_ne,beq_iff_eq] at this;obtain ⟨l,hl,a,ha,b,hb,hab,e1,e2⟩:=this;exact ⟨l,hl,a,ha,b,hb,hab,e1,e2⟩
def lineAdj (s l a b:Nat):Bool:=a==b||(adj s (lineAt (s:Nat) (l:Nat) a).toNat (lineAt (s:Nat) (l:Nat) b).toNat&&(Nat.blt (lineAt (s:Nat) (l:Nat) a).toNat (s*s)&&Nat.blt (lineAt (s:Nat) (l:Nat) b).toNat (s*s)))
theorem line_adj0:∀ s∈[2,3,4],∀ l,l<2*s->∀ a,a<s->∀ b,b<s->lineAdj s l a b=true:=by decide +kernel
theorem line_adj (s:Nat) (hs:s∈[2,3,4]) (l:Nat) (hl:l<2*s) (a:Nat) (ha:a<s) (b:Nat) (hb:b<s) (hab:a≠b):adj s (lineAt (s:Nat) (l:Nat) a).toNat (lineAt (s:Nat) (l:Nat) b).toNat=true/\(lineAt (s:Nat) (l:Nat) a).toNat<s*s/\(lineAt (s:Nat) (l:Nat) b).toNat<s*s:=by
 have:=line_adj0 s hs l hl a ha b hb;simp only [lineAdj,Bool.or_eq_true,beq_iff_eq,Bool.and_eq_true,Nat.blt_eq] at this
 rcases this with h|h
 ·exact absurd h hab
 ·exact h
theorem clash_iff {xs:List Int} {s:Nat} (hs:s∈[2,3,4]):clash xs s=true↔∃ i j,i<s*s/\j<s*s/\adj s i j=true/\nth xs i=nth xs j/\0<nth xs j:=by
 have e2:(2*(s:Int)).toNat=2*s:=by omega
 rw [clash,clashTo_iff,e2]
 constructor
 ·rintro ⟨l,hl,h⟩;rw [dupTo_iff,Int.toNat_natCast] at h;obtain ⟨a,b,h1,h2,h3,h4⟩:=h;obtain ⟨p,q,r⟩:=line_adj s hs l hl a (by omega) b h2 (by omega);exact ⟨_,_,q,r,p,h3,h4⟩
 ·rintro ⟨i,j,hi,hj,ha,he,hp⟩;obtain ⟨l,hl,a,ha',b,hb,hab,ei,ej⟩:=adj_line s hs i hi j hj ha;refine ⟨l,hl,?_⟩;rw [dupTo_iff,Int.toNat_natCast]
  rcases Nat.lt_or_ge a b with h|h
  ·exact ⟨a,b,h,hb,by unfold lineV;rw [ei,ej];exact he,by unfold lineV;rw [ej];exact hp⟩
  ·exact ⟨b,a,by omega,ha',by unfold lineV;rw [ei,ej];exact he.symm,by unfold lineV;rw [ei,he];exact hp⟩
theorem clash_pm {xs:List Int} {s:Nat} {P Q:Nat->Nat} (hs:s∈[2,3,4]) (hP:∀ k,k<s*s->P k<s*s) (hQ:∀ k,k<s*s->Q k<s*s) (hPQ:∀ k,k<s*s->P (Q k)=k)
 (hadj:∀ i,i<s*s->∀ j,j<s*s->adj s i j=true->adj s (P i) (P j)=true/\adj s (Q i) (Q j)=true):clash (pm xs P (s*s)) s=clash xs s:=by
 rw [Bool.eq_iff_iff,clash_iff hs,clash_iff hs]
 constructor
 ·rintro ⟨i,j,hi,hj,ha,he,hp⟩;rw [pm_nth hi,pm_nth hj] at he;rw [pm_nth hj] at hp;exact ⟨P i,P j,hP i hi,hP j hj,(hadj i hi j hj ha).1,he,hp⟩
 ·rintro ⟨i,j,hi,hj,ha,he,hp⟩;refine ⟨Q i,Q j,hQ i hi,hQ j hj,(hadj i hi j hj ha).2,?_,?_⟩
  ·rw [pm_nth (hQ i hi),pm_nth (hQ j hj),hPQ i hi,hPQ j hj];exact he
  ·rw [pm_nth (hQ j hj),hPQ j hj];exact hp
theorem clash_set0 {xs:List Int} {s k:Nat} (hs:s∈[2,3,4]) (hl:xs.length=s*s) (h:clash xs s=false):clash (xs.set k 0) s=false:=by
 cases hc:clash (xs.set k 0) s
 ·rfl
 ·rw [clash_iff hs] at hc;obtain ⟨i,j,hi,hj,ha,he,hp⟩:=hc
  by_cases hk:k<xs.length
  ·rw [nth_set hk,nth_set hk] at he;rw [nth_set hk] at hp;have hkj:k≠j:=(by rintro rfl;simp at hp);rw [if_neg hkj] at he hp;have hki:k≠i:=(by rintro rfl;rw [if_pos rfl] at he;omega);rw [if_neg hki] at he;have:=(clash_iff hs).2 ⟨i,j,hi,hj,ha,he,hp⟩;rw [h] at this;cases this
  ·rw [List.set_eq_of_length_le (by omega)] at he hp;have:=(clash_iff hs).2 ⟨i,j,hi,hj,ha,he,hp⟩;rw [h] at this;cases this
def backIx (s k:Nat):Nat:=turnIx s (turnIx s (turnIx s k))
theorem turn_adj:∀ s∈[2,3,4],∀ i,i<s*s->∀ j,j<s*s->adj s i j=true->adj s (turnIx (s:Nat) i) (turnIx (s:Nat) j)=true/\adj s (backIx s i) (backIx s j)=true:=by decide +kernel
theorem turn_back:∀ s∈[2,3,4],∀ k,k<s*s->backIx s k<s*s/\turnIx (s:Nat) (backIx s k)=k:=by decide +kernel
theorem mir_adj:∀ s∈[2,3,4],∀ i,i<s*s->∀ j,j<s*s->adj s i j=true->adj s (mirIx (s:Nat) i) (mirIx (s:Nat) j)=true:=by decide +kernel
theorem clash_turn {xs:List Int} {size:Int} {n:Nat} (hg:gv xs size=true) (hl:xs.length=n):clash (turnL xs size) size=clash xs size:=by
 rw [turnL_pm hg hl];obtain ⟨s,rfl,hs,hls⟩:=size_nat hg
 obtain rfl:n=s*s:=by omega
 exact clash_pm hs (turn_lt s hs) (fun k hk=>(turn_back s hs k hk).1) (fun k hk=>(turn_back s hs k hk).2) (turn_adj s hs)
theorem clash_mir {xs:List Int} {size:Int} {n:Nat} (hg:gv xs size=true) (hl:xs.length=n):clash (mirL xs size) size=clash xs size:=by
 rw [mirL_pm hg hl];obtain ⟨s,rfl,hs,hls⟩:=size_nat hg
 obtain rfl:n=s*s:=by omega
 exact clash_pm hs (mir_lt s hs) (mir_lt s hs) (mir_two s hs) (fun i hi j hj h=>⟨mir_adj s hs i hi j hj h,mir_adj s hs i hi j hj h⟩)
end Go.Proofs.YtkeoflnmbcdmfaaGreatDoor
namespace Go.Proofs.YtkeoflnmbcdmfaaGreatDoor
open Go.ChangeShapes Go.WideShapes Go.ChangeAt Go.RowKit
def sqFits (xs:List Int) (size:Int):Bool:=gv xs size&& !clash xs size
def sqSolved (xs:List Int) (size:Int):Bool:=sqFits xs size&&(gf xs size==size*size)
theorem cnz_full {xs:List Int} {n:Nat}:cnz xs n=n↔∀ k,k<n->nth xs k≠0:=by
 induction n with
 |zero=>simp [cnz]
 |succ n ih=>
  have hle:=cnz_le xs n
  constructor
  ·intro h
   by_cases e:nth xs n=0
   ·rw [cnz_z e] at h;omega
   ·rw [cnz_nz e] at h;have h':=ih.1 (by omega);intro k hk
    by_cases ek:k=n
    ·subst ek;exact e
    ·exact h' k (by omega)
  ·intro h;rw [cnz_nz (h n (by omega)),ih.2 (fun k hk=>h k (by omega))]
theorem solved_iff {xs:List Int} {size:Int} {n:Nat} (hl:xs.length=n):sqSolved xs size=true↔gv xs size=true/\clash xs size=false/\∀ k,k<n->nth xs k≠0:=by
 subst hl;unfold sqSolved sqFits;simp only [Bool.and_eq_true,Bool.not_eq_true',beq_iff_eq]
 constructor
 ·rintro ⟨⟨h1,h2⟩,h3⟩;refine ⟨h1,h2,?_⟩;have:=gv_len h1;unfold gf at h3;rw [if_pos h1] at h3;exact cnz_full.1 (by omega)
 ·rintro ⟨h1,h2,h3⟩;refine ⟨⟨h1,h2⟩,?_⟩;have:=gv_len h1;unfold gf;rw [if_pos h1,cnz_full.2 h3];omega
def pigB2 (a b v:Nat):Bool:=(a==0||b==0||v==0)||((a==b)||(a==v||b==v))
theorem pig2:∀ a,a<3->∀ b,b<3->∀ v,v<3->pigB2 a b v=true:=by decide +kernel
def pigB3 (a b c v:Nat):Bool:=(a==0||b==0||c==0||v==0)||((a==b||a==c||b==c)||(a==v||b==v||c==v))
theorem pig3:∀ a,a<4->∀ b,b<4->∀ c,c<4->∀ v,v<4->pigB3 a b c v=true:=by decide +kernel
def pigB4 (a b c d v:Nat):Bool:=(a==0||b==0||c==0||d==0||v==0)||((a==b||a==c||a==d||b==c||b==d||c==d)||(a==v||b==v||c==v||d==v))
theorem pig4:∀ a,a<5->∀ b,b<5->∀ c,c<5->∀ d,d<5->∀ v,v<5->pigB4 a b c d v=true:=by decide +kernel
theorem pig {f:Nat->Int} {s:Nat} (hs:s∈[2,3,4]) (hf:∀ i,i<s->1<=f i/\f i<=s) (hd:dupTo f s=false) {v:Int} (v1:1<=v) (v2:v<=s):hasTo f s v=true:=by
 have hne:∀ i j,i<j->j<s->f i≠f j:=by
  intro i j hij hj he;have:dupTo f s=true:=dupTo_iff.2 ⟨i,j,hij,hj,he,by have:=hf j hj;omega⟩;rw [hd] at this;cases this
 have hT:∀ i,i<s->((f i).toNat:Int)=f i:=fun i hi=>Int.toNat_of_nonneg (by have:=hf i hi;omega)
 simp at hs
 rw [hasTo_iff]
 rcases hs with rfl|rfl|rfl
 ·have b0:=hf 0 (by omega);have b1:=hf 1 (by omega);have n01:=hne 0 1 (by omega) (by omega);have hp:=pig2 (f 0).toNat (by omega) (f 1).toNat (by omega) v.toNat (by omega);simp only [pigB2,Bool.or_eq_true,beq_iff_eq] at hp
  have hp':(f 0).toNat=v.toNat\/(f 1).toNat=v.toNat:=by omega
  clear hp
  rcases hp' with h|h
  ·exact ⟨0,by omega,by omega⟩
  ·exact ⟨1,by omega,by omega⟩
 ·have b0:=hf 0 (by omega);have b1:=hf 1 (by omega);have b2:=hf 2 (by omega);have n01:=hne 0 1 (by omega) (by omega);have n02:=hne 0 2 (by omega) (by omega);have n12:=hne 1 2 (by omega) (by omega);have hp:=pig3 (f 0).toNat (by omega) (f 1).toNat (by omega) (f 2).toNat (by omega) v.toNat (by omega);simp only [pigB3,Bool.or_eq_true,beq_iff_eq] at hp
  have hp':(f 0).toNat=v.toNat\/(f 1).toNat=v.toNat\/(f 2).toNat=v.toNat:=by omega
  clear hp
  rcases hp' with h|h|h
  ·exact ⟨0,by omega,by omega⟩
  ·exact ⟨1,by omega,by omega⟩
  ·exact ⟨2,by omega,by omega⟩
 ·have b0:=hf 0 (by omega);have b1:=hf 1 (by omega);have b2:=hf 2 (by omega);have b3:=hf 3 (by omega);have n01:=hne 0 1 (by omega) (by omega);have n02:=hne 0 2 (by omega) (by omega);have n03:=hne 0 3 (by omega) (by omega);have n12:=hne 1 2 (by omega) (by omega);have n13:=hne 1 3 (by omega) (by omega);have n23:=hne 2 3 (by omega) (by omega);have hp:=pig4 (f 0).toNat (by omega) (f 1).toNat (by omega) (f 2).toNat (by omega) (f 3).toNat (by omega) v.toNat (by omega);simp only [pigB4,Bool.or_eq_true,beq_iff_eq] at hp
  have hp':(f 0).toNat=v.toNat\/(f 1).toNat=v.toNat\/(f 2).toNat=v.toNat\/(f 3).toNat=v.toNat:=by omega
  clear hp
  rcases hp' with h|h|h|h
  ·exact ⟨0,by omega,by omega⟩
  ·exact ⟨1,by omega,by omega⟩
  ·exact ⟨2,by omega,by omega⟩
  ·exact ⟨3,by omega,by omega⟩
def lexlt (n:Nat) (xs ys:List Int):Prop:=∃ k,k<n/\(∀ j,j<k->nth xs j=nth ys j)/\nth xs k<nth ys k
theorem sols_prefix {size:Int}:∀ (f:Nat) (xs:List Int) (p:Nat) (y:List Int),y∈sols size f xs p->p+f<=xs.length->∀ k,k<p->nth y k=nth xs k:=by
 intro f
 induction f with
 |zero=>intro xs p y hy _ k _;simp [sols] at hy;subst hy;rfl
 |succ f ih=>
  intro xs p y hy hl;refine solsFrom_all (P:=fun y=>∀ k,k<p->nth y k=nth xs k) _ _ (fun u y _ _ hy k hk=>?_) y hy;rw [ih _ _ _ hy (by rw [List.length_set];omega) k (by omega),nth_set (by omega),if_neg (by omega)]
theorem sols_at {size:Int} {f:Nat} {xs:List Int} {p:Nat} {u:Int} {y:List Int} (hy:y∈sols size f (xs.set p u) (p+1)) (hl:p+1+f<=xs.length):nth y p=u:=by
 rw [sols_prefix f _ _ y hy (by rw [List.length_set];omega) p (by omega),nth_set (by omega),if_pos rfl]
theorem sols_sorted {size:Int} (n:Nat):∀ (f:Nat) (xs:List Int) (p:Nat),p+f=n->xs.length=n->List.Pairwise (lexlt n) (sols size f xs p):=by
 intro f
 induction f with
 |zero=>intro xs p _ _;simp [sols]
 |succ f ih=>
  intro xs p hp hl;simp only [sols]
  have key:∀ (r v:Nat),List.Pairwise (lexlt n) (solsFrom (fun ys=>sols size f ys (p+1)) xs size p r v):=by
   intro r
   induction r with
   |zero=>intro v;simp [solsFrom]
   |succ r ihr=>
    intro v;simp only [solsFrom];rw [List.pairwise_append];refine ⟨?_,ihr (v+1),?_⟩
    ·split
     ·exact List.Pairwise.nil
     ·exact ih _ _ (by omega) (by rw [List.length_set];exact hl)
    ·intro a ha b hb
     have ha':a∈sols size f (xs.set p (v:Int)) (p+1):=by
      split at ha
      ·simp at ha
      ·exact ha
     refine solsFrom_all (P:=fun b=>lexlt n a b) _ _ (fun u b h1 _ hb=>?_) b hb;refine ⟨p,by omega,fun j hj=>?_,?_⟩
     ·rw [sols_prefix f _ _ a ha' (by rw [List.length_set];omega) j (by omega),sols_prefix f _ _ b hb (by rw [List.length_set];omega) j (by omega),nth_set (by omega),nth_set (by omega),if_neg (by omega),if_neg (by omega)]
     ·rw [sols_at ha' (by omega),sols_at hb (by omega)];omega
  exact key _ _
theorem sols_clash {size:Int}:∀ (f:Nat) (xs:List Int) (p:Nat) (y:List Int),y∈sols size (f+1) xs p->clash y size=false:=by
 intro f
 induction f with
 |zero=>
  intro xs p y hy;simp only [sols] at hy
  have key:∀ (r v:Nat),y∈solsFrom (fun ys=>[ys]) xs size p r v->clash y size=false:=by
   intro r
   induction r with
   |zero=>intro v h;simp [solsFrom] at h
   |succ r ihr=>
    intro v h;simp only [solsFrom,List.mem_append] at h
    rcases h with h|h
    ·by_cases hc:clash (xs.set p (v:Int)) size=true
     ·rw [if_pos hc] at h;simp at h
     ·rw [if_neg hc] at h
      simp at h
      subst h
      simpa using hc
    ·exact ihr _ h
  exact key _ _ hy
 |succ f ih=>
  intro xs p y hy;rw [sols] at hy;exact solsFrom_all (P:=fun y=>clash y size=false) _ _ (fun u y _ _ hy=>ih _ _ _ hy) y hy
theorem sols_pos {size:Int}:∀ (f:Nat) (xs:List Int) (p:Nat) (y:List Int),y∈sols size f xs p->p+f<=xs.length->(∀ k,k<p->1<=nth xs k)->∀ k,k<p+f->1<=nth y k:=by
 intro f
 induction f with
 |zero=>intro xs p y hy _ h k hk;simp [sols] at hy;subst hy;exact h k (by omega)
 |succ f ih=>
  intro xs p y hy hl h;refine solsFrom_all (P:=fun y=>∀ k,k<p+(f+1)->1<=nth y k) _ _ (fun u y h1 _ hy k hk=>?_) y hy;refine ih _ _ _ hy (by rw [List.length_set];omega) (fun j hj=>?_) k (by omega);rw [nth_set (by omega)]
  split
  ·omega
  ·exact h j (by omega)
theorem sols_solved {size:Int} {n:Nat} (h2:2<=size) (h4:size<=4) (hn:(n:Int)=size*size) {y:List Int} (hy:y∈sols size n (zeros n) 0):y.length=n/\sqSolved y size=true:=by
 have hl:y.length=n:=by rw [sols_length size _ _ _ _ hy,zeros_length]
 obtain ⟨q4,q16⟩:=sq_bd h2 h4;obtain ⟨m,rfl⟩:∃ m,n=m+1:=⟨n-1,by omega⟩;refine ⟨hl,(solved_iff hl).2 ⟨?_,sols_clash m _ _ _ hy,fun k hk=>?_⟩⟩
 ·exact okAll_gv hl hn h2 h4 (sols_ok (by omega) _ _ _ _ (okAll_zeros (by omega) _) _ hy)
 ·have:=sols_pos _ _ _ _ hy (by rw [zeros_length];omega) (fun k hk=>absurd hk (by omega)) k (by omega);omega
end Go.Proofs.YtkeoflnmbcdmfaaGreatDoor
