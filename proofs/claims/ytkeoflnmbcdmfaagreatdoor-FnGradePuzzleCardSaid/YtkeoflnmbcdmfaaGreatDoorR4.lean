import Derived.Test.YtkeoflnmbcdmfaaGreatDoorClash
import Derived.Deep.QuietTactic
import Derived.BigQuiet
namespace Go.Proofs.YtkeoflnmbcdmfaaGreatDoor
open Go.ChangeShapes Go.WideShapes Go.ChangeAt Go.RowKit
def freshB (xs:List Int) (k:Nat):Bool:=(List.range k).all fun j=>nth xs j != nth xs k
def cellOk (m:Int) (xs:List Int) (k:Nat):Bool:=inr (nth xs k) 0 m&&freshB xs k
def kindOk (k v:Int) (n:Nat) (s:Int):Bool:=
 if k=1 then decide (2<=n)&&(v==0) else if k=2 then decide (1<=n)&&inr v 1 (s*s*s*s) else if k=3 then decide (1<=n)&&inr v 1 (s*s*s*s)
 else if k=4 then decide (n=2)&&(v==0) else if k=5 then decide (n=2)&&inr v 0 (s-1) else false
def rv (k:Int) (xs:List Int) (v s:Int):Bool:=inr s 2 4&&decide (xs.length<=4)&&((List.range xs.length).all (cellOk (s*s-1) xs))&&kindOk k v xs.length s
theorem rv_cell {k v s:Int} {xs:List Int} {n i:Nat} (hl:xs.length=n) (hi:i<n) (h:cellOk (s*s-1) xs i=false):rv k xs v s=false:=by
 have:(List.range xs.length).all (cellOk (s*s-1) xs)=false:=by
  cases e:(List.range xs.length).all (cellOk (s*s-1) xs)
  ·rfl
  ·have:=List.all_eq_true.1 e i (List.mem_range.2 (by omega));rw [h] at this;cases this
 simp only [rv,this,Bool.and_false,Bool.false_and]
theorem rv_tail {k v s:Int} {xs:List Int} {n:Nat} (hl:xs.length=n) (hs:inr s 2 4=true) (h4:n<=4) (h:∀ i,i<n->cellOk (s*s-1) xs i=true):rv k xs v s=kindOk k v n s:=by
 subst hl;have:(List.range xs.length).all (cellOk (s*s-1) xs)=true:=List.all_eq_true.2 (fun i hi=>h i (by rw [List.mem_range] at hi;omega));simp only [rv,this,hs,decide_eq_true h4,Bool.true_and]
theorem fresh_succ {xs:List Int} {k:Nat} {j:Nat} (h:∀ i,i<j->nth xs i≠nth xs k) (e:nth xs j≠nth xs k):∀ i,i<j+1->nth xs i≠nth xs k:=fun i hi=>by
 by_cases he:i=j
 ·subst he;exact e
 ·exact h i (by omega)
theorem fresh_t {xs:List Int} {k:Nat} (h:∀ i,i<k->nth xs i≠nth xs k):freshB xs k=true:=by
 simp only [freshB,List.all_eq_true,List.mem_range,bne_iff_ne];exact h
theorem fresh_f {xs:List Int} {k j:Nat} (hj:j<k) (e:nth xs j=nth xs k):freshB xs k=false:=by
 cases h:freshB xs k
 ·rfl
 ·simp only [freshB,List.all_eq_true,List.mem_range,bne_iff_ne] at h;exact absurd e (h j hj)
def RBox (w:World) (g:Nat) (k:Int) (A:Option Addr) (n c:Nat) (v:Int):Prop:=w.cell? ⟨g,0,none⟩=some (.int .i64 k)/\w.cell? ⟨g,1,none⟩=some (.slice A n c)/\w.cell? ⟨g,2,none⟩=some (.int .i64 v)
theorem RBox.below {w w':World} {g B:Nat} {k:Int} {A:Option Addr} {n c:Nat} {v:Int} (h:RBox w g k A n c v) (hg:g<B) (hb:Below B w w'):RBox w' g k A n c v:=
 ⟨(hb.cell (p:=⟨g,0,none⟩) hg).trans h.1,(hb.cell (p:=⟨g,1,none⟩) hg).trans h.2.1,(hb.cell (p:=⟨g,2,none⟩) hg).trans h.2.2⟩
theorem rbox_new (w:World) (k:Int) (A:Option Addr) (n c:Nat) (v:Int) (t:TypeId):RBox (w.alloc (.cells #[.int .i64 k,.slice A n c,.int .i64 v] t)) w.heap.size k A n c v:=
 ⟨cell_of_row _ _ 0 _ _ (0,0) (heap_alloc_new w _),cell_of_row _ _ 1 _ _ (0,0) (heap_alloc_new w _),cell_of_row _ _ 2 _ _ (0,0) (heap_alloc_new w _)⟩
theorem pow4_wrap {s:Int} (h2:2<=s) (h4:s<=4):wrap64 (s*s)=s*s/\wrap64 (s*s*s)=s*s*s/\wrap64 (s*s*s*s)=s*s*s*s/\wrap64 (s*s-1)=s*s-1/\wrap64 (s-1)=s-1:=by
 have:s=2\/s=3\/s=4:=by omega
 rcases this with rfl|rfl|rfl<;>exact ⟨IntWalk.wrap64_in _ ⟨by omega,by omega⟩,IntWalk.wrap64_in _ ⟨by omega,by omega⟩,IntWalk.wrap64_in _ ⟨by omega,by omega⟩,IntWalk.wrap64_in _ ⟨by omega,by omega⟩,IntWalk.wrap64_in _ ⟨by omega,by omega⟩⟩
set_option maxHeartbeats 1000000 in
theorem specRuleValid (A:Option Addr) (c n B:Nat) (xs:List Int) (k v size:Int) (w:World) (h:Rd w B A n xs) (hB:B<=w.heap.size) (hm:n<=1099511627776):
 Calls Tryz.prog 71 #[.agg #[.int .i64 k,.slice A n c,.int .i64 v],.int .i64 size] w fun e w'=>e=.returned (.bool (rv k xs v size))/\Below w.heap.size w w':=by
 have hlen:=Lib.hid h.1;have hx0:=rbox_new w k A n c v 88;have hb0:Below w.heap.size w (w.alloc (.cells #[.int .i64 k,.slice A n c,.int .i64 v] 88)):=(Below.refl _ _).alloc (Nat.le_refl _) _
 have hsz0:w.heap.size<(w.alloc (.cells #[.int .i64 k,.slice A n c,.int .i64 v] 88)).heap.size:=by simp
 cases hs:inr size 2 4
 ·have HL:=Lib.hid (show rv k xs v size=false by simp [rv,hs])
  go_enter Tryz.func71,Tryz.ntmps71
  go_wp2
  go_loopw [5] (fun i wr=>∃ u:Nat,u<=n/\i=.int .i64 u/\RBox wr w.heap.size k A n c v/\Below w.heap.size w wr) (fun i _=>n-(intOf i).toNat)
  case atStart=>exact ⟨0,Nat.zero_le _,rfl,hx0,hb0⟩
  case round=>
   obtain ⟨u,hu,rfl,hx,hb⟩:=hrel;obtain ⟨hk0,hk1,hk2⟩:=id hx
   by_cases hlt:u<n
   ·obtain ⟨b,off,rfl,hbB,hck⟩:=(h.below (hb.mono hB)).at_ hlt;cases hb1:inr (nth xs u) 0 (wrap64 (wrap64 (size*size)-1))
    ·go_wp2_with (go_at_call 62;refine (l1In_any _ _ _ _).mono ?_;rintro e w' ⟨rfl,rfl⟩;rw [hb1])
     go_ret
     exact ⟨by rw [HL.out];rfl,hb⟩
    ·go_wp2_with (go_at_call 62;refine (l1In_any _ _ _ _).mono ?_;rintro e w' ⟨rfl,rfl⟩;rw [hb1])
     go_loopw [6] (fun i wr=>∃ q:Nat,q<=u/\i=.int .i64 q/\RBox wr w.heap.size k (some ⟨b,off,none⟩) n c v/\Below w.heap.size w wr) (fun i _=>u-(intOf i).toNat)
     case atStart=>exact ⟨0,Nat.zero_le _,rfl,hx,hb⟩
     case round=>
      obtain ⟨q,hq,rfl,hx2,hb2⟩:=hrel;obtain ⟨hj0,hj1,hj2⟩:=id hx2
      by_cases hlq:q<u
      ·obtain ⟨b',off',e1,_,hcu⟩:=(h.below (hb2.mono hB)).at_ hlt;cases e1;obtain ⟨b',off',e1,_,hcq⟩:=(h.below (hb2.mono hB)).at_ (show q<n by omega);cases e1;have hsz2:w.heap.size<wr.heap.size:=cell_lt hj0;cases he:(nth xs q==nth xs u)
       ·go_wp2
        go_quiet (fail)
        go_wp2
        go_roundw
        case rel=>exact ⟨q+1,by omega,by go_num,hx2.below hsz2 (below_drewN (Below.refl _ _) _),below_drewN hb2 _⟩
        case measure=>simp [intOf];omega
       ·go_wp2
        go_quiet (fail)
        go_wp2
        go_ret
        exact ⟨by rw [HL.out];rfl,below_drewN hb2 _⟩
      ·obtain rfl:q=u:=by omega
       go_wp2
       go_roundw
       case rel=>exact ⟨q+1,by omega,by go_num,hx2,hb2⟩
       case measure=>simp [intOf];omega
   ·obtain rfl:u=n:=by omega
    go_wp2_with (go_at_call 62;refine (l1In_any _ _ _ _).mono ?_;rintro e w' ⟨rfl,rfl⟩;rw [hs])
    go_ret
    exact ⟨by rw [HL.out];rfl,hb⟩
 ·obtain ⟨h2,h4⟩:=inr_t hs;obtain ⟨p1,p2,p3,p4,p5⟩:=pow4_wrap h2 h4
  go_enter Tryz.func71,Tryz.ntmps71
  go_wp2
  go_loopw [5] (fun i wr=>∃ u:Nat,u<=n/\i=.int .i64 u/\Hid (∀ i,i<u->cellOk (size*size-1) xs i=true)/\RBox wr w.heap.size k A n c v/\Below w.heap.size w wr) (fun i _=>n-(intOf i).toNat)
  case atStart=>exact ⟨0,Nat.zero_le _,rfl,Lib.hid (fun j hj=>absurd hj (by omega)),hx0,hb0⟩
  case round=>
   obtain ⟨u,hu,rfl,hall,hx,hb⟩:=hrel;obtain ⟨hk0,hk1,hk2⟩:=id hx
   by_cases hlt:u<n
   ·obtain ⟨b,off,rfl,hbB,hck⟩:=(h.below (hb.mono hB)).at_ hlt;cases hi:inr (nth xs u) 0 (size*size-1)
    ·have HL:=Lib.hid (rv_cell (k:=k) (v:=v) (s:=size) hlen.out hlt (by simp only [cellOk,hi,Bool.false_and]))
     go_wp2_with (go_at_call 62;refine (l1In_any _ _ _ _).mono ?_;rintro e w' ⟨rfl,rfl⟩;rw [hi])
     go_ret
     exact ⟨by rw [HL.out];rfl,hb⟩
    ·go_wp2_with (go_at_call 62;refine (l1In_any _ _ _ _).mono ?_;rintro e w' ⟨rfl,rfl⟩;rw [hi])
     go_loopw [6] (fun i wr=>∃ q:Nat,q<=u/\i=.int .i64 q/\Hid (∀ i,i<q->nth xs i≠nth xs u)/\RBox wr w.heap.size k (some ⟨b,off,none⟩) n c v/\Below w.heap.size w wr) (fun i _=>u-(intOf i).toNat)
     case atStart=>exact ⟨0,Nat.zero_le _,rfl,Lib.hid (fun j hj=>absurd hj (by omega)),hx,hb⟩
     case round=>
      obtain ⟨q,hq,rfl,hfr,hx2,hb2⟩:=hrel;obtain ⟨hj0,hj1,hj2⟩:=id hx2
      by_cases hlq:q<u
      ·obtain ⟨b',off',e1,_,hcu⟩:=(h.below (hb2.mono hB)).at_ hlt;cases e1;obtain ⟨b',off',e1,_,hcq⟩:=(h.below (hb2.mono hB)).at_ (show q<n by omega);cases e1;have hsz2:w.heap.size<wr.heap.size:=cell_lt hj0;cases he:(nth xs q==nth xs u)
       ·have hfr2:=Lib.hid (fresh_succ hfr.out (by simpa using he))
        go_wp2
        go_quiet (fail)
        go_wp2
        go_roundw
        case rel=>exact ⟨q+1,by omega,by go_num,hfr2,hx2.below hsz2 (below_drewN (Below.refl _ _) _),below_drewN hb2 _⟩
        case measure=>simp [intOf];omega
       ·have HL:=Lib.hid (rv_cell (k:=k) (v:=v) (s:=size) hlen.out hlt (by simp only [cellOk,fresh_f hlq (by simpa using he),Bool.and_false]))
        go_wp2
        go_quiet (fail)
        go_wp2
        go_ret
        exact ⟨by rw [HL.out];rfl,below_drewN hb2 _⟩
      ·obtain rfl:q=u:=by omega
       have hall2:Hid (∀ i,i<q+1->cellOk (size*size-1) xs i=true):=Lib.hid (fun i hi2=>by
        by_cases e:i=q
        ·subst e;simp only [cellOk,hi,fresh_t hfr.out,Bool.true_and]
        ·exact hall.out i (by omega))
       go_wp2
       go_roundw
       case rel=>exact ⟨q+1,by omega,by go_num,hall2,hx2,hb2⟩
       case measure=>simp [intOf];omega
   ·obtain rfl:u=n:=by omega
    by_cases hn4:u<=4
    ·have HL:=rv_tail (k:=k) (v:=v) hlen.out hs hn4 hall.out;have hcase:k=1\/k=2\/k=3\/k=4\/k=5\/((k==1)=false/\(k==2)=false/\(k==3)=false/\(k==4)=false/\(k==5)=false):=(by simp only [beq_eq_false_iff_ne];omega);have hngt:¬ (4:Int)<(u:Int):=(by omega)
     rcases hcase with rfl|rfl|rfl|rfl|rfl|⟨c1,c2,c3,c4,c5⟩
     ·have HL2:=Lib.hid (show rv 1 xs v size=(decide (2<=u)&&(v==0)) by rw [HL];rfl);clear HL
      by_cases hn2:2<=u
      ·have hn2':(2:Int)<=(u:Int):=(by omega)
       go_wp2_with (go_at_call 62;refine (l1In_any _ _ _ _).mono ?_;rintro e w' ⟨rfl,rfl⟩;rw [hs])
       go_ret
       exact ⟨by rw [HL2.out,decide_eq_true hn2];rfl,hb⟩
      ·have hn2':¬ (2:Int)<=(u:Int):=(by omega)
       go_wp2_with (go_at_call 62;refine (l1In_any _ _ _ _).mono ?_;rintro e w' ⟨rfl,rfl⟩;rw [hs])
       go_ret
       exact ⟨by rw [HL2.out,decide_eq_false hn2];rfl,hb⟩
     ·have HL2:=Lib.hid (show rv 2 xs v size=(decide (1<=u)&&inr v 1 (size*size*size*size)) by rw [HL];rfl);clear HL
      by_cases hn2:1<=u
      ·have hn2':(1:Int)<=(u:Int):=(by omega)
       go_wp2_with (go_at_call 62;refine (l1In_any _ _ _ _).mono ?_;rintro e w' ⟨rfl,rfl⟩;try rw [hs])
       go_ret
       exact ⟨by rw [HL2.out,decide_eq_true hn2];rfl,hb⟩
      ·have hn2':¬ (1:Int)<=(u:Int):=(by omega)
       go_wp2_with (go_at_call 62;refine (l1In_any _ _ _ _).mono ?_;rintro e w' ⟨rfl,rfl⟩;try rw [hs])
       go_ret
       exact ⟨by rw [HL2.out,decide_eq_false hn2];rfl,hb⟩
     ·have HL2:=Lib.hid (show rv 3 xs v size=(decide (1<=u)&&inr v 1 (size*size*size*size)) by rw [HL];rfl);clear HL
      by_cases hn2:1<=u
      ·have hn2':(1:Int)<=(u:Int):=(by omega)
       go_wp2_with (go_at_call 62;refine (l1In_any _ _ _ _).mono ?_;rintro e w' ⟨rfl,rfl⟩;try rw [hs])
       go_ret
       exact ⟨by rw [HL2.out,decide_eq_true hn2];rfl,hb⟩
      ·have hn2':¬ (1:Int)<=(u:Int):=(by omega)
       go_wp2_with (go_at_call 62;refine (l1In_any _ _ _ _).mono ?_;rintro e w' ⟨rfl,rfl⟩;try rw [hs])
       go_ret
       exact ⟨by rw [HL2.out,decide_eq_false hn2];rfl,hb⟩
     ·have HL2:=Lib.hid (show rv 4 xs v size=(decide (u=2)&&(v==0)) by rw [HL];rfl);clear HL
      by_cases hn2:u=2
      ·subst hn2
       go_wp2_with (go_at_call 62;refine (l1In_any _ _ _ _).mono ?_;rintro e w' ⟨rfl,rfl⟩;rw [hs])
       go_ret
       exact ⟨by rw [HL2.out];rfl,hb⟩
      ·have hn2':((u:Int)==2)=false:=(by simp only [beq_eq_false_iff_ne];omega)
       go_wp2_with (go_at_call 62;refine (l1In_any _ _ _ _).mono ?_;rintro e w' ⟨rfl,rfl⟩;rw [hs])
       go_ret
       exact ⟨by rw [HL2.out,decide_eq_false hn2];rfl,hb⟩
     ·have HL2:=Lib.hid (show rv 5 xs v size=(decide (u=2)&&inr v 0 (size-1)) by rw [HL];rfl);clear HL
      by_cases hn2:u=2
      ·subst hn2
       go_wp2_with (go_at_call 62;refine (l1In_any _ _ _ _).mono ?_;rintro e w' ⟨rfl,rfl⟩;try rw [hs])
       go_ret
       exact ⟨by rw [HL2.out];rfl,hb⟩
      ·have hn2':((u:Int)==2)=false:=(by simp only [beq_eq_false_iff_ne];omega)
       go_wp2_with (go_at_call 62;refine (l1In_any _ _ _ _).mono ?_;rintro e w' ⟨rfl,rfl⟩;try rw [hs])
       go_ret
       exact ⟨by rw [HL2.out,decide_eq_false hn2];rfl,hb⟩
     ·have HL2:=Lib.hid (show rv k xs v size=false by
       rw [HL];unfold kindOk
       rw [if_neg (by simpa using c1),if_neg (by simpa using c2),if_neg (by simpa using c3),if_neg (by simpa using c4),if_neg (by simpa using c5)])
      clear HL
      go_wp2_with (go_at_call 62;refine (l1In_any _ _ _ _).mono ?_;rintro e w' ⟨rfl,rfl⟩;rw [hs])
      go_ret
      exact ⟨by rw [HL2.out];rfl,hb⟩
    ·have HL:=Lib.hid (show rv k xs v size=false by simp only [rv,hlen.out,hn4,decide_false,Bool.and_false,Bool.false_and])
     go_wp2_with (go_at_call 62;refine (l1In_any _ _ _ _).mono ?_;rintro e w' ⟨rfl,rfl⟩;rw [hs])
     go_ret
     exact ⟨by rw [HL.out];rfl,hb⟩
end Go.Proofs.YtkeoflnmbcdmfaaGreatDoor
