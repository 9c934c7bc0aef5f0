import Derived.Test.YtkeoflnmbcdmfaaGreatDoorClash
namespace Go.Proofs.YtkeoflnmbcdmfaaGreatDoor
open Go.ChangeShapes Go.WideShapes Go.ChangeAt Go.RowKit
theorem pickL_bd {L:List (List Int)} {l:Int} (h0:0<=l):0<=(pickL L l).2/\(pickL L l).2<=l:=by
 by_cases h:l<L.length
 ·obtain ⟨y,_,_,e⟩:=pickL_lt h0 h;rw [e];exact ⟨Int.le_refl _,h0⟩
 ·rw [pickL_ge (by omega)]
  simp;omega
theorem srch_bd {size:Int} {f:Nat} {xs:List Int} {p:Nat} {l:Int} (h0:0<=l):0<=(srch size f xs p l).2/\(srch size f xs p l).2<=l:=by
 rw [srch_sols size f xs p l h0];exact pickL_bd h0
def Box1 (w:World) (L:Nat) (v:Int):Prop:=w.heap[L]? =some (.cells #[.int .i64 v] 3 (0,0))
theorem Box1.cell {w:World} {L:Nat} {v:Int} (h:Box1 w L v):w.cell? ⟨L,0,none⟩=some (.int .i64 v):=cell_of_row _ _ 0 _ _ _ h
theorem Box1.free {w:World} {L:Nat} {v:Int} (h:Box1 w L v):w.frozen? ⟨L,0,none⟩=false:=frozen_of_row w L 0 _ _ h
theorem Box1.lt {w:World} {L:Nat} {v:Int} (h:Box1 w L v):L<w.heap.size:=cell_lt h.cell
theorem Box1.set_ {w:World} {L:Nat} {v:Int} (h:Box1 w L v) (u:Int):Box1 (w.setCell ⟨L,0,none⟩ (.int .i64 u)) L u/\w.grownBy (w.setCell ⟨L,0,none⟩ (.int .i64 u)) (some L):=
 ⟨heap_setCell_same w L 0 _ _ _ h,⟨rfl,rfl,rfl,by simp [World.setCell],fun k _ hk=>heap_setCell_other w ⟨L,0,none⟩ k _ (fun e=>hk (by rw [e]))⟩⟩
theorem Box1.below {w w':World} {L:Nat} {v:Int} (h:Box1 w L v) (hb:Below w.heap.size w w'):Box1 w' L v:=(hb.block L h.lt).trans h
def SrchPost (w:World) (n L:Nat) (r:Option (List Int)×Int) (e:Ending) (w':World):Prop:=
 w.grownBy w' (some L)/\Box1 w' L r.2/\
  match r.1 with
  |some y=>∃ A' c',e=.returned (.slice A' n c')/\Rd w' w'.heap.size A' n y
  |none=>e=.returned (.slice none 0 0)
theorem okAll_set {xs:List Int} {size v:Int} {n p:Nat} (h:okAll xs size n) (hl:xs.length=n) (hp:p<n) (v0:0<=v) (v1:v<=size):okAll (xs.set p v) size n:=by
 intro k hk;rw [nth_set (by omega)]
 split
 ·exact ⟨v0,v1⟩
 ·exact h k hk
theorem grown_below {w w':World} {L B:Nat} (h:w.grownBy w' (some L)) (hL:B<=L) (hB:B<=w.heap.size):Below B w w':=(Below.refl _ _).grown h hB (fun k hk=>by cases hk;exact hL)
theorem below_grown {w w1 w2:World} {L:Nat} (h:w.grownBy w1 (some L)) (hb:Below w1.heap.size w1 w2):w.grownBy w2 (some L):=
 ⟨hb.os.trans h.os,hb.tape.trans h.tape,hb.output.trans h.output,Nat.le_trans h.size hb.size,fun k hk hne=>(hb.block k (Nat.lt_of_lt_of_le hk h.size)).trans (h.block k hk hne)⟩
theorem tryFrom_clash {rec:List Int->Int->Option (List Int)×Int} {xs:List Int} {size:Int} {p r v:Nat} {l:Int} (h:clash (xs.set p (v:Int)) size=true):tryFrom rec xs size p (r+1) v l=tryFrom rec xs size p r (v+1) l:=by
 rw [tryFrom,if_pos h]
theorem tryFrom_some {rec:List Int->Int->Option (List Int)×Int} {xs y:List Int} {size:Int} {p r v:Nat} {l l':Int} (h:clash (xs.set p (v:Int)) size=false) (hr:rec (xs.set p (v:Int)) l=(some y,l')):tryFrom rec xs size p (r+1) v l=(some y,l'):=by
 rw [tryFrom,if_neg (by simp [h]),hr]
theorem tryFrom_none {rec:List Int->Int->Option (List Int)×Int} {xs:List Int} {size:Int} {p r v:Nat} {l l':Int} (h:clash (xs.set p (v:Int)) size=false) (hr:rec (xs.set p (v:Int)) l=(none,l')):tryFrom rec xs size p (r+1) v l=tryFrom rec xs size p r (v+1) l':=by
 rw [tryFrom,if_neg (by simp [h]),hr]
theorem specSearch (size:Int) (n L:Nat) (h2:2<=size) (h4:size<=4) (hn:Hid ((n:Int)=size*size)) (hn4:4<=n) (hn16:n<=16) (f:Nat):∀ (A:Option Addr) (c B:Nat) (xs:List Int) (p:Nat) (left:Int) (w:World),
 p+f=n->Rd w B A n xs->B<=w.heap.size->(∀ b off,A=some ⟨b,off,none⟩->b≠L)->Hid (okAll xs size n)->Box1 w L left->0<=left->left<=9223372036854775807->
 Calls Tryz.prog 174 #[.slice A n c,.int .i64 size,.int .i64 p,.pointer (some ⟨L,0,none⟩)] w (SrchPost w n L (srch size f xs p left)):=by
 induction f with
 |zero=>
  intro A c B xs p left w hp hr hB hne hok hx l0 l1
  obtain rfl:p=n:=by omega
  have hnn:((p:Int)==(p:Int))=true:=by simp
  have hc:=hx.cell;have hf:=hx.free
  by_cases h0:left=0
  ·have hz:(left==0)=true:=by simp [h0]
   have hs:=Lib.hid (show srch size 0 xs p left=(some xs,left) by rw [srch,if_pos h0]);clear h0
   go_enter Tryz.func174,Tryz.ntmps174
   go_wp2
   go_ret
   rw [hs.out];exact ⟨World.grownBy.refl _ _,hx,A,c,rfl,hr.more hB⟩
  ·have hz:(left==0)=false:=by simp [h0]
   have hs:=Lib.hid (show srch size 0 xs p left=(none,left-1) by rw [srch,if_neg h0]);have hpos:1<=left:=(by omega);clear h0
   go_enter Tryz.func174,Tryz.ntmps174
   go_wp2
   go_ret
   rw [hs.out];exact ⟨(hx.set_ _).2,(hx.set_ _).1,rfl⟩
 |succ f ih=>
  intro A c B xs p left w hp hr hB hne hok hx l0 l1;have hlen:=Lib.hid hr.1;have hLlt:=hx.lt
  have hpn:p<n:=by omega
  obtain ⟨b,off,rfl,hb,hcp⟩:=hr.at_ hpn;have hbL:=hne b off rfl;clear hne hcp
  have hpp:((p:Int)==(n:Int))=false:=by simp;omega
  have Hp:=Lib.hid (show (p+1)+f=n by omega);clear hp;have Ih:=Lib.hid ih;clear ih;have hsz:size.toNat=size:=Int.toNat_of_nonneg (by omega);have Hsz:=Lib.hid hsz;clear hsz;have hS:=Lib.hid (show srch size (f+1) xs p left=tryFrom (fun ys l=>srch size f ys (p+1) l) xs size p size.toNat 1 left from rfl)
  go_enter Tryz.func174,Tryz.ntmps174
  go_wp2
  go_loopw [9] (fun i wr=>∃ (v:Nat) (l:Int),1<=v/\(v:Int)<=size+1/\i=.int .i64 v/\Hid (srch size (f+1) xs p left=tryFrom (fun ys l=>srch size f ys (p+1) l) xs size p (size.toNat+1-v) v l)/\w.grownBy wr (some L)/\Box1 wr L l/\0<=l/\l<=9223372036854775807) (fun i _=>(size+1-intOf i).toNat)
  case atStart=>exact ⟨1,left,by omega,by omega,rfl,hS,World.grownBy.refl _ _,hx,l0,l1⟩
  case round=>
   obtain ⟨v,l,v1,v2,rfl,hS',hg,hx',l0',l1'⟩:=hrel
   by_cases hlt:(v:Int)<=size
   ·have hr':Rd wr B (some ⟨b,off,none⟩) n xs:=by
     refine ⟨hr.1,fun hn0=>?_⟩;obtain ⟨b',off',he,hb',hcc⟩:=hr.2 hn0;cases he;exact ⟨b,off,rfl,hb,fun k hk=>(World.cell?_of_block (a:=⟨b,off+k,none⟩) (hg.block b (by omega) (fun e=>hbL (by injection e)))).trans (hcc k hk)⟩
    have hwr:=hg.size
    go_wp2_with (at_builtin;refine push_some rfl (.tmp 32) (.tmp 33) rfl wr.heap.size (some ⟨wr.heap.size,0,none⟩) 0 0 [] b off n c B xs rfl rfl (Ow.made0 _ _ (Nat.le_refl _)) (hr'.alloc (by omega) _) (by omega) (by omega) (by simp) ?_;intro A1 c1 w1 ho1 hg1;simp only [Nat.zero_add,List.nil_append] at ho1;obtain ⟨g,rfl,hlog,hgw⟩:=ho1.form (by omega);obtain ⟨hcq,hfq⟩:=ho1.cell hpn)
    have ho2:Ow (w1.setCell ⟨g,p,none⟩ (.int .i64 v)) wr.heap.size (some ⟨g,0,none⟩) n c1 (xs.set p (v:Int)):=by
     have:=(World.ownsRow.stored ho1 p (.int .i64 (v:Int))).1;rw [vals_set] at this;exact this
    have hb2:Below wr.heap.size wr (w1.setCell ⟨g,p,none⟩ (.int .i64 v)):=(((Below.refl _ _).alloc (Nat.le_refl _) _).grown hg1 (by simp) (fun k hk=>(Ow.made0 wr wr.heap.size (Nat.le_refl _)).own_lo k hk)).setCell hlog _
    generalize w1.setCell ⟨g,p,none⟩ (.int .i64 (v:Int))=W2 at*
    have hx2:=hx'.below hb2;have hok2:=Lib.hid (okAll_set hok.out hlen.out hpn (by omega:(0:Int)<=(v:Int)) hlt);have hgL:g≠L:=(by have:=hx'.lt;omega);have hr2:size.toNat+1-v=(size.toNat-v)+1:=(by have:=Hsz.out;omega);have hr3:size.toNat-v=size.toNat+1-(v+1):=(by have:=Hsz.out;omega);have HS:srch size (f+1) xs p left=tryFrom (fun ys l=>srch size f ys (p+1) l) xs size p ((size.toNat-v)+1) v l:=(by rw [<- hr2];exact hS'.out);have HS':=Lib.hid HS;have Hr3:=Lib.hid hr3
    have hne3:∀ b' off':Nat,(some ⟨g,0,none⟩:Option Addr)=some ⟨b',off',none⟩->b'≠L:=fun b' off' he=>by cases he;exact hgL
    clear HS hr2 hr3 hS' hS hcq hfq hg1 ho1;cases hcl:clash (xs.set p (v:Int)) size
    ·refine (specClash _ _ _ _ _ _ _ ho2.rd (Nat.le_refl _) h2 h4 hn hok2).mono ?_;rintro e w3 ⟨rfl,hb3⟩;rw [hcl];have ho3:=ho2.below hb3;have hx3:=hx2.below hb3;have hg3:w.grownBy w3 (some L):=below_grown (below_grown hg hb2) hb3
     cases hrr:srch size f (xs.set p (v:Int)) (p+1) l with
     |mk o l2=>
      have Hrr:=Lib.hid hrr
      obtain ⟨bd0,bd1⟩:0<=l2/\l2<=l:=by
       have hbd:=srch_bd (size:=size) (f:=f) (xs:=xs.set p (v:Int)) (p:=p+1) l0';rw [hrr] at hbd;exact hbd
      clear hrr
      cases o with
      |none=>
       have Hn:=Lib.hid (tryFrom_none (rec:=fun ys l=>srch size f ys (p+1) l) (r:=size.toNat-v) hcl Hrr.out);clear hcl
       go_wp2_with (go_at_call 174;rw [show ((p:Int)+1)=((p+1:Nat):Int) from by omega];refine (Ih.out _ _ _ _ _ _ _ Hp.out ho3.rd (Nat.le_refl _) hne3 hok2 hx3 l0' l1').mono ?_;rintro e w4 hpost;rw [Hrr.out] at hpost;obtain ⟨hg4,hx4,rfl⟩:=hpost)
       go_roundw
       case rel=>exact ⟨v+1,l2,by omega,by omega,by go_num,by rw [<- Hr3.out];exact HS'.out.trans Hn.out,hg3.trans hg4,hx4,bd0,by omega⟩
       case measure=>simp [intOf];omega
      |some y=>
       have Hn:=Lib.hid (tryFrom_some (rec:=fun ys l=>srch size f ys (p+1) l) (r:=size.toNat-v) hcl Hrr.out);clear hcl
       go_wp2_with (go_at_call 174;rw [show ((p:Int)+1)=((p+1:Nat):Int) from by omega];refine (Ih.out _ _ _ _ _ _ _ Hp.out ho3.rd (Nat.le_refl _) hne3 hok2 hx3 l0' l1').mono ?_;rintro e w4 hpost;rw [Hrr.out] at hpost;obtain ⟨hg4,hx4,A4,c4,rfl,hr4⟩:=hpost)
       go_ret
       rw [HS'.out,Hn.out];exact ⟨hg3.trans hg4,hx4,A4,c4,rfl,hr4⟩
    ·have Hn:=Lib.hid (tryFrom_clash (rec:=fun ys l=>srch size f ys (p+1) l) (r:=size.toNat-v) (l:=l) hcl);refine (specClash _ _ _ _ _ _ _ ho2.rd (Nat.le_refl _) h2 h4 hn hok2).mono ?_;rintro e w3 ⟨rfl,hb3⟩;rw [hcl];clear hcl
     go_wp2
     go_roundw
     case rel=>exact ⟨v+1,l,by omega,by omega,by go_num,by rw [<- Hr3.out];exact HS'.out.trans Hn.out,below_grown (below_grown hg hb2) hb3,hx2.below hb3,l0',l1'⟩
     case measure=>simp [intOf];omega
   ·go_wp2
    go_ret
    have e:size.toNat+1-v=0:=(by have:=Hsz.out;omega);rw [hS'.out,e];exact ⟨hg,hx',rfl⟩
end Go.Proofs.YtkeoflnmbcdmfaaGreatDoor
