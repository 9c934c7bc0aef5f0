import Derived.Test.YtkeoflnmbcdmfaaGreatDoorHBAdj
import Derived.Lib.BitFns
namespace Go.Proofs.YtkeoflnmbcdmfaaGreatDoor
open Go.ChangeShapes Go.WideShapes Go.ChangeAt Go.RowKit
def mcells (M:Nat->Nat) (s:Int):Array Value:= #[.int .i64 (M 0),.int .i64 (M 1),.int .i64 (M 2),.int .i64 (M 3),.int .i64 (M 4),.int .i64 (M 5),.int .i64 (M 6),.int .i64 (M 7),.int .i64 s]
theorem mcell_at (M:Nat->Nat) (s:Int) {l:Nat} (hl:l<8):(mcells M s)[l]? =some (.int .i64 (M l)):=by
 have:l=0\/l=1\/l=2\/l=3\/l=4\/l=5\/l=6\/l=7:=by omega
 rcases this with rfl|rfl|rfl|rfl|rfl|rfl|rfl|rfl<;>rfl
theorem linesThrough_any (s cell:Int) (w:World) (h2:2<=s) (h4:s<=4) (c0:0<=cell) (c1:cell<16):
 Calls Tryz.prog 160 #[.int .i64 s,.int .i64 cell] w fun e w'=>e=.returned (.tuple #[.int .i64 (cell/s),.int .i64 (s+cell%s)])/\Below w.heap.size w w':=by
 have q0:0<=cell/s:=Int.ediv_nonneg c0 (by omega);have q1:cell/s<=cell:=Int.ediv_le_self _ c0;have r0:0<=cell%s:=Int.emod_nonneg _ (by omega);have r1:cell%s<s:=Int.emod_lt_of_pos _ (by omega);have e1:cell.tmod s=cell%s:=Int.tmod_eq_emod_of_nonneg c0;have e2:cell.tdiv s=cell/s:=Int.tdiv_eq_ediv_of_nonneg c0;have e3:IntKind.i64.wrap (cell/s)=cell/s:=IntWalk.i64_in _ (by omega);have e4:IntKind.i64.wrap (s+cell%s)=s+cell%s:=IntWalk.i64_in _ (by omega)
 have hz:(s==0)=false:=by simp;omega
 go_enter Tryz.func160,Tryz.ntmps160
 go_wp2
 go_quiet (fail)
 go_wp2
 go_ret2
 exact ⟨rfl,below_drewN (Below.refl _ _) _⟩
theorem or_pow (a v:Nat) (ha:a<32) (hv:v<=4):bits .or .i64 (a:Int) (wrap64 (2^v))=((a|||2^v:Nat):Int):=by
 have hlt:2^v<2^5:=Nat.pow_lt_pow_right (by omega) (by omega);rw [pow_int]
 generalize 2^v=p at*
 rw [IntWalk.wrap64_in _ ⟨by omega,by omega⟩,i64_or_nat _ _ (by omega) (by omega)]
def mput (M:Nat->Nat) (l v:Nat):Nat->Nat:=fun j=>if j=l then M j|||2^v else M j
theorem mcells_set (M:Nat->Nat) (s:Int) {l v:Nat} (hl:l<8):(mcells M s).setIfInBounds l (.int .i64 ((M l|||2^v:Nat):Int))=mcells (mput M l v) s:=by
 have:l=0\/l=1\/l=2\/l=3\/l=4\/l=5\/l=6\/l=7:=by omega
 rcases this with rfl|rfl|rfl|rfl|rfl|rfl|rfl|rfl<;>rfl
def MBox (w:World) (g:Nat) (M:Nat->Nat) (s:Int):Prop:=w.heap[g]? =some (.cells (mcells M s) 81)
theorem MBox.cell {w:World} {g:Nat} {M:Nat->Nat} {s:Int} (h:MBox w g M s) {l:Nat} (hl:l<8):w.cell? ⟨g,l,none⟩=some (.int .i64 (M l)):=
 (cell_of_row _ _ l _ _ (0,0) h).trans (mcell_at M s hl)
theorem MBox.size_ {w:World} {g:Nat} {M:Nat->Nat} {s:Int} (h:MBox w g M s):w.cell? ⟨g,8,none⟩=some (.int .i64 s):=
 (cell_of_row _ _ 8 _ _ (0,0) h).trans rfl
theorem MBox.frozen {w:World} {g:Nat} {M:Nat->Nat} {s:Int} (h:MBox w g M s) (l:Nat):w.frozen? ⟨g,l,none⟩=false:=by
 unfold World.frozen?;rw [show w.heap[g]? =_ from h]
 simp
theorem MBox.set {w:World} {g:Nat} {M:Nat->Nat} {s:Int} (h:MBox w g M s) {l v:Nat} (hl:l<8):MBox (w.setCell ⟨g,l,none⟩ (.int .i64 ((M l|||2^v:Nat):Int))) g (mput M l v) s:=by
 unfold MBox;rw [heap_setCell_same w g l _ _ _ h,<-mcells_set M s hl]
theorem MBox.below {w w':World} {g B:Nat} {M:Nat->Nat} {s:Int} (h:MBox w g M s) (hg:g<B) (hb:Below B w w'):MBox w' g M s:=(hb.block g hg).trans h
theorem MBox.other {w:World} {g g' k:Nat} {v:Value} {M:Nat->Nat} {s:Int} (h:MBox w g M s) (hne:g≠g'):MBox (w.setCell ⟨g',k,none⟩ v) g M s:=(heap_setCell_other w _ g v hne).trans h
theorem MBox.stored {w:World} {g:Nat} {M M':Nat->Nat} {s s':Int} (h:MBox w g M s):MBox (w.setRow g (mcells M' s')) g M' s':=setRow_heap w g _ _ _ _ h
theorem setRow_below {B g:Nat} {w w':World} {cs:Array Value} (h:Below B w w') (hg:B<=g):Below B w (w'.setRow g cs):=
 h.trans ⟨rfl,rfl,rfl,by simp,fun k hk=>by unfold World.setRow;simp only [Array.getElem?_modify];rw [if_neg (by omega)]⟩
theorem linesThrough_rc (s:Int) (cell r c:Nat) (w:World) (h2:2<=s) (h4:s<=4) (c1:cell<16) (hr:(cell:Int)/s=(r:Int)) (hc:s+(cell:Int)%s=(c:Int)):
 Calls Tryz.prog 160 #[.int .i64 s,.int .i64 cell] w fun e w'=>e=.returned (.tuple #[.int .i64 r,.int .i64 c])/\Below w.heap.size w w':=by
 rw [<- hr,<-hc];exact linesThrough_any s cell w h2 h4 (by omega) (by omega)
def sqFits (xs:List Int) (size:Int):Bool:=gv xs size&& !clash xs size
def sqSolved (xs:List Int) (size:Int):Bool:=sqFits xs size&&(gf xs size==size*size)
theorem cnz_full {xs:List Int} {n:Nat}:cnz xs n=n↔∀ k,k<n->nth xs k≠0:=by
 induction n with
 |zero=>simp [cnz]
 |succ n ih=>
  have hle:=cnz_le xs n
  constructor
  ·intro h
   by_cases e:nth xs n=0
   ·rw [cnz_z e] at h;omega
   ·rw [cnz_nz e] at h;have h':=ih.1 (by omega);intro k hk
    by_cases ek:k=n
    ·subst ek;exact e
    ·exact h' k (by omega)
  ·intro h;rw [cnz_nz (h n (by omega)),ih.2 (fun k hk=>h k (by omega))]
theorem solved_iff {xs:List Int} {size:Int} {n:Nat} (hl:xs.length=n):sqSolved xs size=true↔gv xs size=true/\clash xs size=false/\∀ k,k<n->nth xs k≠0:=by
 subst hl;unfold sqSolved sqFits;simp only [Bool.and_eq_true,Bool.not_eq_true',beq_iff_eq]
 constructor
 ·rintro ⟨⟨h1,h2⟩,h3⟩;refine ⟨h1,h2,?_⟩;have:=gv_len h1;unfold gf at h3;rw [if_pos h1] at h3;exact cnz_full.1 (by omega)
 ·rintro ⟨h1,h2,h3⟩;refine ⟨⟨h1,h2⟩,?_⟩;have:=gv_len h1;unfold gf;rw [if_pos h1,cnz_full.2 h3];omega
def pigB2 (a b v:Nat):Bool:=(a==0||b==0||v==0)||((a==b)||(a==v||b==v))
theorem pig2:∀ a,a<3->∀ b,b<3->∀ v,v<3->pigB2 a b v=true:=by decide +kernel
def pigB3 (a b c v:Nat):Bool:=(a==0||b==0||c==0||v==0)||((a==b||a==c||b==c)||(a==v||b==v||c==v))
theorem pig3:∀ a,a<4->∀ b,b<4->∀ c,c<4->∀ v,v<4->pigB3 a b c v=true:=by decide +kernel
def pigB4 (a b c d v:Nat):Bool:=(a==0||b==0||c==0||d==0||v==0)||((a==b||a==c||a==d||b==c||b==d||c==d)||(a==v||b==v||c==v||d==v))
theorem pig4:∀ a,a<5->∀ b,b<5->∀ c,c<5->∀ d,d<5->∀ v,v<5->pigB4 a b c d v=true:=by decide +kernel
theorem pig {f:Nat->Int} {s:Nat} (hs:s∈[2,3,4]) (hf:∀ i,i<s->1<=f i/\f i<=s) (hd:dupTo f s=false) {v:Int} (v1:1<=v) (v2:v<=s):hasTo f s v=true:=by
 have hne:∀ i j,i<j->j<s->f i≠f j:=by
  intro i j hij hj he;have:dupTo f s=true:=dupTo_iff.2 ⟨i,j,hij,hj,he,by have:=hf j hj;omega⟩;rw [hd] at this;cases this
 have hT:∀ i,i<s->((f i).toNat:Int)=f i:=fun i hi=>Int.toNat_of_nonneg (by have:=hf i hi;omega)
 simp at hs
 rw [hasTo_iff]
 rcases hs with rfl|rfl|rfl
 ·have b0:=hf 0 (by omega);have b1:=hf 1 (by omega);have n01:=hne 0 1 (by omega) (by omega);have hp:=pig2 (f 0).toNat (by omega) (f 1).toNat (by omega) v.toNat (by omega);simp only [pigB2,Bool.or_eq_true,beq_iff_eq] at hp
  have hp':(f 0).toNat=v.toNat\/(f 1).toNat=v.toNat:=by omega
  clear hp
  rcases hp' with h|h
  ·exact ⟨0,by omega,by omega⟩
  ·exact ⟨1,by omega,by omega⟩
 ·have b0:=hf 0 (by omega);have b1:=hf 1 (by omega);have b2:=hf 2 (by omega);have n01:=hne 0 1 (by omega) (by omega);have n02:=hne 0 2 (by omega) (by omega);have n12:=hne 1 2 (by omega) (by omega);have hp:=pig3 (f 0).toNat (by omega) (f 1).toNat (by omega) (f 2).toNat (by omega) v.toNat (by omega);simp only [pigB3,Bool.or_eq_true,beq_iff_eq] at hp
  have hp':(f 0).toNat=v.toNat\/(f 1).toNat=v.toNat\/(f 2).toNat=v.toNat:=by omega
  clear hp
  rcases hp' with h|h|h
  ·exact ⟨0,by omega,by omega⟩
  ·exact ⟨1,by omega,by omega⟩
  ·exact ⟨2,by omega,by omega⟩
 ·have b0:=hf 0 (by omega);have b1:=hf 1 (by omega);have b2:=hf 2 (by omega);have b3:=hf 3 (by omega);have n01:=hne 0 1 (by omega) (by omega);have n02:=hne 0 2 (by omega) (by omega);have n03:=hne 0 3 (by omega) (by omega);have n12:=hne 1 2 (by omega) (by omega);have n13:=hne 1 3 (by omega) (by omega);have n23:=hne 2 3 (by omega) (by omega);have hp:=pig4 (f 0).toNat (by omega) (f 1).toNat (by omega) (f 2).toNat (by omega) (f 3).toNat (by omega) v.toNat (by omega);simp only [pigB4,Bool.or_eq_true,beq_iff_eq] at hp
  have hp':(f 0).toNat=v.toNat\/(f 1).toNat=v.toNat\/(f 2).toNat=v.toNat\/(f 3).toNat=v.toNat:=by omega
  clear hp
  rcases hp' with h|h|h|h
  ·exact ⟨0,by omega,by omega⟩
  ·exact ⟨1,by omega,by omega⟩
  ·exact ⟨2,by omega,by omega⟩
  ·exact ⟨3,by omega,by omega⟩
theorem okTo3_iff {xs:List Int} {s:Int} {k:Nat} {v:Int} (m:Nat):okTo3 xs s k v m=true↔∀ j,j<m->ok3 xs s k v j=true:=by
 induction m with
 |zero=>simp [okTo3]
 |succ m ih=>
  rw [okTo3,Bool.and_eq_true,ih]
  constructor
  ·rintro ⟨h1,h2⟩ j hj
   by_cases e:j=m
   ·subst e;exact h2
   ·exact h1 j (by omega)
  ·intro h;exact ⟨fun j hj=>h j (by omega),h m (by omega)⟩
def seen3 (s k i:Nat):Bool:=(List.range s).any fun j=>((rIx (s:Nat) k j).toNat==i)||((cIx (s:Nat) k j).toNat==i)
theorem seen_adj:∀ s∈[2,3,4],∀ k,k<s*s->∀ i,i<s*s->adj s i k=true->seen3 s k i=true:=by decide +kernel
def adjSeen (s k j:Nat):Bool:=((rIx (s:Nat) k j==(k:Int))||(adj s (rIx (s:Nat) k j).toNat k&&Nat.blt (rIx (s:Nat) k j).toNat (s*s)))&&((cIx (s:Nat) k j==(k:Int))||(adj s (cIx (s:Nat) k j).toNat k&&Nat.blt (cIx (s:Nat) k j).toNat (s*s)))
theorem adj_seen:∀ s∈[2,3,4],∀ k,k<s*s->∀ j,j<s->adjSeen s k j=true:=by decide +kernel
theorem ix_nn:∀ s∈[2,3,4],∀ k,k<s*s->∀ j,j<s->((rIx (s:Nat) k j).toNat:Int)=rIx (s:Nat) k j/\((cIx (s:Nat) k j).toNat:Int)=cIx (s:Nat) k j:=by decide +kernel
theorem adj_ne (s i j:Nat):(adj s i j=true->i≠j)/\True:=⟨fun h=>by simp only [adj,Bool.and_eq_true,bne_iff_ne] at h;exact h.1,trivial⟩
theorem adj_sym:∀ s∈[2,3,4],∀ i,i<s*s->∀ j,j<s*s->adj s i j=adj s j i:=by decide +kernel
theorem ok3_adj {xs:List Int} {s k:Nat} (hs:s∈[2,3,4]) (hk:k<s*s) (v:Int):okTo3 xs s k v s=true↔∀ i,i<s*s->adj s i k=true->nth xs i≠v:=by
 rw [okTo3_iff]
 constructor
 ·intro h i hi ha he;have:=seen_adj s hs k hk i hi ha;simp only [seen3,List.any_eq_true,List.mem_range,Bool.or_eq_true,beq_iff_eq] at this;obtain ⟨j,hj,hor⟩:=this;have ho:=h j hj;obtain ⟨n1,n2⟩:=ix_nn s hs k hk j hj;have hne:=((adj_ne s i k).1 ha);simp only [ok3,Bool.and_eq_true,Bool.or_eq_true,beq_iff_eq,bne_iff_ne] at ho
  rcases hor with e|e
  ·rcases ho.1 with h1|h1
   ·omega
   ·rw [e] at h1;exact h1 he
  ·rcases ho.2 with h1|h1
   ·omega
   ·rw [e] at h1;exact h1 he
 ·intro h j hj;have:=adj_seen s hs k hk j hj;simp only [adjSeen,Bool.and_eq_true,Bool.or_eq_true,beq_iff_eq,Nat.blt_eq] at this;simp only [ok3,Bool.and_eq_true,Bool.or_eq_true,beq_iff_eq,bne_iff_ne];refine ⟨?_,?_⟩
  ·rcases this.1 with e|⟨e1,e2⟩
   ·exact .inl e
   ·exact .inr (h _ e2 e1)
  ·rcases this.2 with e|⟨e1,e2⟩
   ·exact .inl e
   ·exact .inr (h _ e2 e1)
theorem candTo_test (xs:List Int) (s:Int) (k u:Nat):∀ v,(candTo xs s k v).testBit u=true↔1<=u/\u<=v/\okTo3 xs s k (u:Int) s.toNat=true:=by
 intro v
 induction v with
 |zero=>simp [candTo];omega
 |succ v ih=>
  have hc:((v:Int)+1)=((v+1:Nat):Int):=by omega
  simp only [candTo]
  split
  ·next h=>
   rw [hc] at h;rw [Nat.testBit_or,Bool.or_eq_true,ih,Nat.testBit_two_pow,decide_eq_true_eq]
   constructor
   ·rintro (⟨h1,h2,h3⟩|rfl)
    ·exact ⟨h1,by omega,h3⟩
    ·exact ⟨by omega,Nat.le_refl _,h⟩
   ·rintro ⟨h1,h2,h3⟩
    by_cases e:u=v+1
    ·exact .inr e.symm
    ·exact .inl ⟨h1,by omega,h3⟩
  ·next h=>
   rw [hc] at h;rw [ih]
   constructor
   ·rintro ⟨h1,h2,h3⟩;exact ⟨h1,by omega,h3⟩
   ·rintro ⟨h1,h2,h3⟩;refine ⟨h1,?_,h3⟩
    by_cases e:u=v+1
    ·subst e;exact absurd h3 h
    ·omega
theorem candN_lt {xs:List Int} {s n:Nat} (hs4:s<=4) (hok:okAll xs s n) {k:Nat} (hk:k<n):candN xs s k<32:=by
 unfold candN
 split
 ·have:=hok k hk;exact Nat.pow_lt_pow_right (n:=5) (by omega) (by omega)
 ·exact candTo_lt _ _ _ _ (by omega)
set_option maxRecDepth 8000
def seqN (v:Nat):Nat->List Int
 |0=>[]
 |r+1=>(v:Int)::seqN (v+1) r
def rep (s:Nat):List Int:=seqN 1 s
theorem seqN_mem {x:Int}:∀ {r v:Nat},x∈seqN v r↔∃ u:Nat,x=u/\v<=u/\u<v+r:=by
 intro r
 induction r with
 |zero=>intro v;simp [seqN]
 |succ r ih=>
  intro v;simp only [seqN,List.mem_cons,ih]
  constructor
  ·rintro (rfl|⟨u,rfl,h1,h2⟩)
   ·exact ⟨v,rfl,by omega,by omega⟩
   ·exact ⟨u,rfl,by omega,by omega⟩
  ·rintro ⟨u,rfl,h1,h2⟩
   by_cases e:u=v
   ·subst e;exact .inl rfl
   ·exact .inr ⟨u,rfl,by omega,by omega⟩
theorem rep_mem {x:Int} {s:Nat}:x∈rep s↔∃ u:Nat,x=u/\1<=u/\u<=s:=by
 unfold rep;rw [seqN_mem]
 constructor
 ·rintro ⟨u,e,h1,h2⟩;exact ⟨u,e,h1,by omega⟩
 ·rintro ⟨u,e,h1,h2⟩;exact ⟨u,e,h1,by omega⟩
theorem seqN_snoc (v r:Nat):seqN v (r+1)=seqN v r++[((v+r:Nat):Int)]:=by
 induction r generalizing v with
 |zero=>rfl
 |succ r ih=>
  rw [seqN,ih (v+1),seqN];simp only [List.cons_append];rw [show v+1+r=v+(r+1) by omega]
def enS (s:Nat):Nat->List Int->Nat->List (List Int)
 |0,g,_=>[g]
 |f+1,g,p=>if 0<nth g p then enS s f g (p+1) else (rep s).flatMap fun x=>enS s f (g.set p x) (p+1)
theorem take_take {α:Type} (m:Nat) (X Y:List α):(X.take m++Y).take m=(X++Y).take m:=by
 by_cases h:X.length<=m
 ·rw [List.take_of_length_le h]
 ·have h1:(X.take m).length=m:=by rw [List.length_take];omega
  rw [List.take_append_of_le_length (by omega),List.take_append_of_le_length (by omega),List.take_take,Nat.min_self]
theorem take_self {α:Type} {m:Nat} {X:List α} (Y:List α) (h:X.length=m):(X++Y).take m=X:=by
 rw [List.take_append_of_le_length (by omega),List.take_of_length_le (by omega)]
theorem s5_is {fit:List Int->Bool} {s most:Nat} (In:Nat->List Int->Nat->Prop)
 (h1:∀ f g p,In (f+1) g p->0<nth g p->In f g (p+1)) (h2:∀ f g p x,In (f+1) g p->¬ 0<nth g p->x∈rep s->In f (g.set p x) (p+1))
 (hm:∀ f g p y,In f g p->y∈enS s f g p->fit y=true->fit g=true):
 ∀ f g p Ls,In f g p->fit g=true->Ls.length<most->s5 fit s most f g p Ls=(Ls++(enS s f g p).filter fit).take most:=by
 intro f
 induction f with
 |zero=>
  intro g p Ls _ hf hl;simp only [s5,enS];rw [List.filter_cons_of_pos hf,List.filter_nil,List.take_of_length_le (by simp;omega)]
 |succ f ih=>
  intro g p Ls hI hf hl;simp only [s5,enS]
  by_cases hp:0<nth g p
  ·rw [if_pos hp,if_pos hp];exact ih g (p+1) Ls (h1 f g p hI hp) hf hl
  ·rw [if_neg hp,if_neg hp]
   have key:∀ r v Ls,(∀ x∈seqN v r,x∈rep s)->Ls.length<=most->
       tryV fit (fun g' L'=>s5 fit s most f g' (p+1) L') g p most r v Ls=(Ls++((seqN v r).flatMap fun x=>enS s f (g.set p x) (p+1)).filter fit).take most:=by
    intro r
    induction r with
    |zero=>intro v Ls _ hle;simp only [tryV,seqN,List.flatMap_nil,List.filter_nil,List.append_nil];exact (List.take_of_length_le hle).symm
    |succ r ihr=>
     intro v Ls hin hle;simp only [tryV,seqN,List.flatMap_cons,List.filter_append]
     by_cases hlt:Ls.length<most
     ·rw [if_pos hlt];have hv:=hin (v:Int) (by simp [seqN]);have hIv:=h2 f g p v hI hp hv
      have e:(if fit (g.set p (v:Int))=true then s5 fit s most f (g.set p (v:Int)) (p+1) Ls else Ls)=(Ls++(enS s f (g.set p (v:Int)) (p+1)).filter fit).take most:=by
       by_cases hfit:fit (g.set p (v:Int))=true
       ·rw [if_pos hfit];exact ih _ _ _ hIv hfit hlt
       ·rw [if_neg hfit]
        have:(enS s f (g.set p (v:Int)) (p+1)).filter fit=[]:=by
         rw [List.filter_eq_nil_iff];intro y hy hfy;exact hfit (hm _ _ _ y hIv hy hfy)
        rw [this,List.append_nil,List.take_of_length_le hle]
      rw [e,ihr (v+1) _ (fun x hx=>hin x (by simp [seqN,hx])) (by rw [List.length_take];omega),take_take,List.append_assoc]
     ·rw [if_neg hlt];exact (take_self _ (by omega)).symm
   exact key s 1 Ls (fun x hx=>hx) (by omega)
theorem enS_in {s:Nat}:∀ f g p y,y∈enS s f g p->p+f=g.length->y.length=g.length/\(∀ i,i<p->nth y i=nth g i)/\∀ i,p<=i->i<g.length->(0<nth g i->nth y i=nth g i)/\(¬ 0<nth g i->nth y i∈rep s):=by
 intro f
 induction f with
 |zero=>
  intro g p y hy hl;simp only [enS,List.mem_singleton] at hy;subst hy;exact ⟨rfl,fun _ _=>rfl,fun i h1 h2=>absurd h2 (by omega)⟩
 |succ f ih=>
  intro g p y hy hl;simp only [enS] at hy
  split at hy
  ·next hp=>
   obtain ⟨a,b,c⟩:=ih g (p+1) y hy (by omega);refine ⟨a,fun i hi=>b i (by omega),fun i h1 h2=>?_⟩
   by_cases e:i=p
   ·subst e;exact ⟨fun _=>b i (by omega),fun h=>absurd hp h⟩
   ·exact c i (by omega) h2
  ·next hp=>
   obtain ⟨x,hx,hy⟩:=List.mem_flatMap.1 hy;obtain ⟨a,b,c⟩:=ih _ (p+1) y hy (by rw [List.length_set];omega);rw [List.length_set] at a c;refine ⟨a,fun i hi=>?_,fun i h1 h2=>?_⟩
   ·rw [b i (by omega),nth_set (by omega),if_neg (by omega)]
   ·by_cases e:i=p
    ·subst e;refine ⟨fun h=>absurd h hp,fun _=>?_⟩;rw [b i (by omega),nth_set (by omega),if_pos rfl];exact hx
    ·have:=c i (by omega) h2;rw [nth_set (by omega),if_neg (by omega)] at this;exact this
theorem fit_mono {s:Nat} {gi:List Int} {rs:List RuleM} {g y:List Int} (hs:s∈[2,3,4]) (hr:∀ i,i<rs.length->rvR s (rat rs i)=true) (hgy:gv y s=true) (hgg:gv g s=true) (hl:y.length=g.length) (h:∀ i,i<y.length->nth g i=nth y i\/nth g i=0) (hf:fitB s gi rs y=true):fitB s gi rs g=true:=by
 simp only [fitB,Bool.and_eq_true,List.all_eq_true,List.mem_range,Bool.not_eq_true'] at hf ⊢;obtain ⟨⟨f1,f2⟩,f3⟩:=hf
 have hln:y.length=s*s:=by
  have:=gv_len hgy
  simp at hs
  rcases hs with rfl|rfl|rfl<;>omega
 refine ⟨⟨fun i hi=>?_,fun i hi=>?_⟩,?_⟩
 ·rcases h i (by omega) with e|e
  ·have:=f1 i (by omega);unfold giveOk at this ⊢;rw [e];exact this
  ·unfold giveOk;rw [e]
   simp
 ·have h1:=f2 i hi;have h2:=hr i hi;unfold rpR at h1 ⊢;exact rp_mono h2 hgy hgg hs h h1
 ·cases hc:clash g s
  ·rfl
  ·obtain ⟨i,j,hi,hj,ha,e,h0⟩:=(clash_iff hs).1 hc;have ei:nth g i=nth y i:=(h i (by omega)).resolve_right (by omega);have ej:nth g j=nth y j:=(h j (by omega)).resolve_right (by omega);have:clash y s=true:=(clash_iff hs).2 ⟨i,j,hi,hj,ha,by rw [<- ei,<-ej,e],by rw [<- ej];exact h0⟩;rw [f3] at this;cases this
theorem okAll_gv' {s:Nat} {y:List Int} (hs:s∈[2,3,4]) (hl:y.length=s*s) (h:∀ i,i<s*s->0<=nth y i/\nth y i<=s):gv y s=true:=by
 simp at hs
 exact okAll_gv hl (by rcases hs with rfl|rfl|rfl<;>decide) (by omega) (by omega) h
def solL (s:Nat) (gi:List Int) (rs:List RuleM):List (List Int):=(enS s gi.length gi 0).filter (fitB s gi rs)
theorem enS_full {s:Nat} {y:List Int} (hs:s∈[2,3,4]) {f:Nat} {g:List Int} {p:Nat} (hp:p+f=g.length) (hlg:g.length=s*s) (hg:∀ i,i<s*s->0<=nth g i/\nth g i<=s) (hy:y∈enS s f g p):y.length=s*s/\gv y s=true/\∀ i,i<s*s->nth g i=nth y i\/nth g i=0:=by
 obtain ⟨a,b,c⟩:=enS_in f g p y hy hp
 have key:∀ i,i<s*s->(nth g i=nth y i\/nth g i=0)/\(0<=nth y i/\nth y i<=s):=fun i hi=>by
  have hgi:=hg i hi
  by_cases h1:i<p
  ·rw [b i h1];exact ⟨.inl rfl,hgi⟩
  ·obtain ⟨c1,c2⟩:=c i (by omega) (by omega)
   by_cases h0:0<nth g i
   ·rw [c1 h0];exact ⟨.inl rfl,hgi⟩
   ·obtain ⟨u,e,u1,u2⟩:=rep_mem.1 (c2 h0);exact ⟨.inr (by omega),by omega⟩
 exact ⟨a.trans hlg,okAll_gv' hs (a.trans hlg) (fun i hi=>(key i hi).2),fun i hi=>(key i hi).1⟩
theorem allS_is {s:Nat} {gi:List Int} {rs:List RuleM} {most n:Nat} (hl:gi.length=n) (hv:pvB s gi rs=true) (h0:0<most):allS s most n gi rs=(solL s gi rs).take most:=by
 obtain ⟨t,ht,hs,hn,_,hok⟩:=pv_grid hv hl
 obtain rfl:s=t:=by omega
 obtain ⟨hgi,_,hr⟩:=pv_gv hv
 have hn':n=s*s:=by
  simp at hs
  rcases hs with rfl|rfl|rfl<;>omega
 subst hn'
 let In:Nat->List Int->Nat->Prop:=fun f g p=>p+f=s*s/\g.length=s*s/\∀ i,i<s*s->0<=nth g i/\nth g i<=(s:Int)
 have hmono:∀ f g p y,In f g p->y∈enS s f g p->fitB s gi rs y=true->fitB s gi rs g=true:=by
  rintro f g p y ⟨i1,i2,i3⟩ hy hf;obtain ⟨q1,q2,q3⟩:=enS_full hs (by omega) i2 i3 hy;exact fit_mono hs hr q2 (okAll_gv' hs i2 i3) (by omega) (fun i hi=>q3 i (by omega)) hf
 have hI0:In (s*s) gi 0:=⟨by omega,hl,hok⟩;unfold allS solL;rw [hl]
 by_cases hf:fpB s gi rs gi=true
 ·have hfit:fitB s gi rs gi=true:=by simp only [fpB,Bool.and_eq_true] at hf;exact hf.2
  rw [if_pos hf,Int.toNat_natCast];have:=s5_is (fit:=fitB s gi rs) (s:=s) (most:=most) In ?_ ?_ hmono (s*s) gi 0 [] hI0 hfit (by simpa using h0)
  ·rw [this,List.nil_append]
  ·rintro f g p ⟨i1,i2,i3⟩ _;exact ⟨by omega,i2,i3⟩
  ·rintro f g p x ⟨i1,i2,i3⟩ _ hx;refine ⟨by omega,by rw [List.length_set];exact i2,fun i hi=>?_⟩;rw [nth_set (by omega)]
   split
   ·obtain ⟨u,e,u1,u2⟩:=rep_mem.1 hx;omega
   ·exact i3 i hi
 ·rw [if_neg hf]
  have:(enS s (s*s) gi 0).filter (fitB s gi rs)=[]:=by
   rw [List.filter_eq_nil_iff];intro y hy hfy
   apply hf
   have:=hmono _ _ _ y hI0 hy hfy;simp only [fpB,Bool.and_eq_true];exact ⟨⟨hv,hgi⟩,this⟩
  rw [this,List.take_nil]
def lastN (xs:List Int):Nat->Nat
 |0=>0
 |k+1=>max (lastN xs k) (nth xs k).toNat
theorem lastN_ge {xs:List Int}:∀ {n i:Nat},i<n->(nth xs i).toNat<=lastN xs n:=by
 intro n
 induction n with
 |zero=>intro i h;omega
 |succ n ih=>
  intro i h;simp only [lastN]
  by_cases e:i=n
  ·subst e;omega
  ·have:=ih (i:=i) (by omega);omega
theorem lastN_at {xs:List Int}:∀ {n:Nat},0<n->∃ i,i<n/\(nth xs i).toNat=lastN xs n:=by
 intro n
 induction n with
 |zero=>intro h;omega
 |succ n ih=>
  intro _;simp only [lastN]
  by_cases e:n=0
  ·subst e;exact ⟨0,by omega,by simp [lastN]⟩
  ·obtain ⟨i,h1,h2⟩:=ih (by omega)
   by_cases h:lastN xs n<=(nth xs n).toNat
   ·exact ⟨n,by omega,by omega⟩
   ·exact ⟨i,by omega,by omega⟩
def lastR (r:RuleM):Nat:=lastN r.xs r.xs.length
def rulesAt (rs:List RuleM) (p:Nat):List RuleM:=rs.filter fun r=>lastR r==p
def noConf (s:Nat) (us:List Int) (p:Nat):Bool:=(List.range p).all fun i=> !(adj s i p&&(nth us i==nth us p))
def rlOk (rs:List RuleM) (us:List Int) (p:Nat):Bool:=(rulesAt rs p).all fun r=>holdsB r.k r.v (pks us r.xs r.xs.length)
def stB (s:Nat) (rs:List RuleM) (us:List Int) (p:Nat):Bool:=noConf s us p&&rlOk rs us p
def cv (s:Nat) (gi:List Int) (rs:List RuleM):Nat->List Int->List (List Int)
 |0,vs=>[vs]
 |f+1,vs=>(bitsTo (candN gi s vs.length) 4).flatMap fun v=>if stB s rs (vs++[v]) vs.length=true then cv s gi rs f (vs++[v]) else []
theorem flat_none {α β:Type} {L:List α} {f:α->List β} (h:∀ x∈L,f x=[]):L.flatMap f=[]:=by
 induction L with
 |nil=>rfl
 |cons a L ih=>rw [List.flatMap_cons,h a (List.mem_cons_self ..),List.nil_append,ih (fun x hx=>h x (List.mem_cons_of_mem _ hx))]
theorem flat_congr {α β:Type} {L:List α} {f g:α->List β} (h:∀ x∈L,f x=g x):L.flatMap f=L.flatMap g:=by
 induction L with
 |nil=>rfl
 |cons a L ih=>rw [List.flatMap_cons,List.flatMap_cons,h a (List.mem_cons_self ..),ih (fun x hx=>h x (List.mem_cons_of_mem _ hx))]
theorem bits_rep {β:Type} {M s:Nat} (f:Int->List β) (hs:s<=4) (hM:∀ u,s<u->M.testBit u=false):(bitsTo M 4).flatMap f=(rep s).flatMap fun v=>if M.testBit v.toNat=true then f v else []:=by
 have h1:∀ u,(bitsTo M u).flatMap f=(rep u).flatMap fun v=>if M.testBit v.toNat=true then f v else []:=by
  intro u
  induction u with
  |zero=>rfl
  |succ u ih=>
   rw [bits_flat,ih];unfold rep;rw [seqN_snoc,List.flatMap_append];have e:((1+u:Nat):Int)=(u:Int)+1:=(by omega);have e2:((u:Int)+1).toNat=u+1:=(by omega);simp only [List.flatMap_cons,List.flatMap_nil,List.append_nil,e,e2]
 have h2:∀ d,(rep (s+d)).flatMap (fun v=>if M.testBit v.toNat=true then f v else [])=(rep s).flatMap fun v=>if M.testBit v.toNat=true then f v else []:=by
  intro d
  induction d with
  |zero=>rfl
  |succ d ih=>
   rw [<- ih];unfold rep;rw [show s+(d+1)=(s+d)+1 by omega,seqN_snoc,List.flatMap_append];simp only [List.flatMap_cons,List.flatMap_nil,List.append_nil];rw [show (((1+(s+d):Nat):Int)).toNat=1+(s+d) by omega,hM _ (by omega)]
   simp
 rw [h1,<-h2 (4-s),show s+(4-s)=4 by omega]
theorem pks_take {y xs:List Int} {m n p:Nat} (hx:∀ i,i<n->(nth xs i).toNat<p) (hp:p<=m):pks (y.take m) xs n=pks y xs n:=by
 unfold pks
 apply ext_nth (by rw [mapTo_length,mapTo_length])
 intro k hk;rw [mapTo_length] at hk;rw [mapTo_nth hk,mapTo_nth hk];have:=hx k hk;simp only [nth,List.getD_eq_getElem?_getD,List.getElem?_take];unfold nth at this;rw [List.getD_eq_getElem?_getD] at this;rw [if_pos (by omega)]
theorem rv_cells {s:Nat} {r:RuleM} (h:rvR s r=true):0<r.xs.length/\∀ i,i<r.xs.length->0<=nth r.xs i/\(nth r.xs i).toNat<s*s:=by
 obtain ⟨_,h2,_,h4⟩:=rv_facts rfl h;refine ⟨by omega,fun i hi=>?_⟩;obtain ⟨a,b⟩:=h4 i hi;refine ⟨a,?_⟩
 have e:((s*s:Nat):Int)=(s:Int)*s:=by simp
 omega
theorem last_lt {s:Nat} {r:RuleM} (h:rvR s r=true):lastR r<s*s:=by
 obtain ⟨h0,h1⟩:=rv_cells h;obtain ⟨i,hi,e⟩:=lastN_at (xs:=r.xs) h0;unfold lastR;rw [<- e];exact (h1 i hi).2
theorem rat_mem {rs:List RuleM} {r:RuleM} (h:r∈rs):∃ i,i<rs.length/\rat rs i=r:=by
 obtain ⟨i,hi,e⟩:=List.getElem_of_mem h;exact ⟨i,hi,by simp [rat,List.getD_eq_getElem?_getD,hi,e]⟩
theorem full_holds {s:Nat} {r:RuleM} {y:List Int} (hr:rvR s r=true) (hg:gv y s=true) (hf:∀ i,i<s*s->nth y i≠0):rpR s y r=holdsB r.k r.v (pks y r.xs r.xs.length):=by
 obtain ⟨_,h1⟩:=rv_cells hr;exact rp_full hr hg (fun i hi=>by unfold pks;rw [mapTo_nth hi];exact hf _ (h1 i hi).2)
theorem fit_st {s:Nat} {gi y:List Int} {rs:List RuleM} (hs:s∈[2,3,4]) (hr:∀ i,i<rs.length->rvR s (rat rs i)=true) (hl:y.length=s*s) (hg:gv y s=true) (hf:∀ i,i<s*s->nth y i≠0) (h:fitB s gi rs y=true) {p:Nat} (hp:p<s*s):stB s rs (y.take (p+1)) p=true:=by
 simp only [fitB,Bool.and_eq_true,List.all_eq_true,List.mem_range,Bool.not_eq_true'] at h;obtain ⟨⟨_,f2⟩,f3⟩:=h;simp only [stB,noConf,rlOk,Bool.and_eq_true,List.all_eq_true,List.mem_range,Bool.not_eq_true',Bool.and_eq_false_iff]
 constructor
 ·intro i hi;rw [nth_take (by omega),nth_take (by omega)];cases ha:adj s i p
  ·exact .inl rfl
  ·refine .inr ?_;rw [beq_eq_false_iff_ne];intro e;have h0:=hf p hp;have hgp:=gv_nth hg (k:=p) (by omega);have:clash y s=true:=(clash_iff hs).2 ⟨i,p,by omega,hp,ha,e,by omega⟩;rw [f3] at this;cases this
 ·intro r hrm;obtain ⟨hr1,hr2⟩:=List.mem_filter.1 hrm;rw [beq_iff_eq] at hr2;obtain ⟨i,hi,rfl⟩:=rat_mem hr1;rw [pks_take (p:=p+1) (fun j hj=>by have:=lastN_ge (xs:=(rat rs i).xs) hj;unfold lastR at hr2;omega) (Nat.le_refl _),<-full_holds (hr i hi) hg hf];exact f2 i hi
theorem st_fit {s:Nat} {gi y:List Int} {rs:List RuleM} (hs:s∈[2,3,4]) (hr:∀ i,i<rs.length->rvR s (rat rs i)=true) (hl:y.length=s*s) (hg:gv y s=true) (hf:∀ i,i<s*s->nth y i≠0) (hgi:∀ i,i<s*s->0<nth gi i->nth y i=nth gi i) (h:∀ p,p<s*s->stB s rs (y.take (p+1)) p=true):fitB s gi rs y=true:=by
 have hc:∀ i j,i<j->j<s*s->adj s i j=true->nth y i≠nth y j:=fun i j hij hj ha e=>by
  have:=h j hj;simp only [stB,noConf,Bool.and_eq_true,List.all_eq_true,List.mem_range,Bool.not_eq_true',Bool.and_eq_false_iff] at this
  rcases this.1 i hij with h1|h1
  ·rw [ha] at h1;cases h1
  ·rw [nth_take (by omega),nth_take (by omega),e] at h1
   simp at h1
 simp only [fitB,Bool.and_eq_true,List.all_eq_true,List.mem_range,Bool.not_eq_true'];refine ⟨⟨fun i hi=>?_,fun i hi=>?_⟩,?_⟩
 ·unfold giveOk
  by_cases h0:0<nth gi i
  ·rw [hgi i (by omega) h0];simp
  ·simp [h0]
 ·rw [full_holds (hr i hi) hg hf];have:=h (lastR (rat rs i)) (last_lt (hr i hi));simp only [stB,rlOk,Bool.and_eq_true,List.all_eq_true] at this
  have:=this.2 (rat rs i) (List.mem_filter.2 ⟨by
   have:rat rs i=rs[i]:=(by simp [rat,List.getD_eq_getElem?_getD,hi])
   rw [this];exact List.getElem_mem _,by simp⟩)
  rw [pks_take (p:=lastR (rat rs i)+1) (fun j hj=>by have:=lastN_ge (xs:=(rat rs i).xs) hj;unfold lastR;omega) (Nat.le_refl _)] at this;exact this
 ·cases e:clash y s
  ·rfl
  ·obtain ⟨i,j,hi,hj,ha,e1,_⟩:=(clash_iff hs).1 e;have hne:=(adj_ne s i j).1 ha
   rcases Nat.lt_or_gt_of_ne hne with hlt|hlt
   ·exact absurd e1 (hc i j hlt hj ha)
   ·exact absurd e1.symm (hc j i hlt hi (by rw [<- adj_sym s hs i hi j hj];exact ha))
theorem cv_is {s:Nat} {gi:List Int} {rs:List RuleM} (hv:pvB s gi rs=true):cv s gi rs gi.length []=solL s gi rs:=by
 obtain ⟨t,ht,hs,hn,_,hok⟩:=pv_grid hv rfl
 obtain rfl:s=t:=by omega
 obtain ⟨hgi,_,hr⟩:=pv_gv hv
 have hl:gi.length=s*s:=by
  simp at hs
  rcases hs with rfl|rfl|rfl<;>omega
 have hs4:s<=4:=by simp at hs;omega
 rw [hl] at hok;unfold solL;rw [hl]
 have key:∀ f vs,vs.length+f=s*s->(∀ i,i<vs.length->1<=nth vs i/\nth vs i<=(s:Int)/\(0<nth gi i->nth vs i=nth gi i))->(∀ p,p<vs.length->stB s rs (vs.take (p+1)) p=true)->
     cv s gi rs f vs=(enS s f (vs++gi.drop vs.length) vs.length).filter (fitB s gi rs):=by
  intro f
  induction f with
  |zero=>
   intro vs hf hvs hst;simp only [cv,enS];have hd:gi.drop vs.length=[]:=List.drop_of_length_le (by omega);rw [hd,List.append_nil];have hgv:gv vs s=true:=okAll_gv' hs (by omega) (fun i hi=>by have:=hvs i (by omega);omega);rw [List.filter_cons_of_pos (st_fit hs hr (by omega) hgv (fun i hi=>by have:=hvs i (by omega);omega) (fun i hi h0=>(hvs i (by omega)).2.2 h0) (fun p hp=>hst p (by omega))),List.filter_nil]
  |succ f ih=>
   intro vs hf hvs hst;have hpn:vs.length<s*s:=(by omega);have hlen:(vs++gi.drop vs.length).length=s*s:=(by rw [List.length_append,List.length_drop];omega)
   have hgp:nth (vs++gi.drop vs.length) vs.length=nth gi vs.length:=by
    simp only [nth,List.getD_eq_getElem?_getD];rw [List.getElem?_append_right (Nat.le_refl _),Nat.sub_self,List.getElem?_drop,Nat.add_zero]
   have hset:∀ x,(vs++gi.drop vs.length).set vs.length x=(vs++[x])++gi.drop (vs++[x]).length:=fun x=>by
    rw [List.length_append,List.length_singleton];have:gi.drop vs.length=gi[vs.length]'(by omega)::gi.drop (vs.length+1):=List.drop_eq_getElem_cons (by omega);rw [this,List.set_append_right _ _ (Nat.le_refl _),Nat.sub_self,List.set_cons_zero,List.append_assoc];rfl
   have hgrid:∀ i,i<s*s->0<=nth (vs++gi.drop vs.length) i/\nth (vs++gi.drop vs.length) i<=(s:Int):=fun i hi=>by
    by_cases h:i<vs.length
    ·have:nth (vs++gi.drop vs.length) i=nth vs i:=(by simp [nth,List.getD_eq_getElem?_getD,List.getElem?_append_left h]);rw [this];have:=hvs i h;omega
    ·have:nth (vs++gi.drop vs.length) i=nth gi i:=by
      simp [nth,List.getD_eq_getElem?_getD,List.getElem?_append_right (show vs.length<=i by omega),show vs.length+(i-vs.length)=i by omega]
     rw [this];exact hok i hi
   have one:∀ x,1<=x->x<=(s:Int)->(0<nth gi vs.length->x=nth gi vs.length)->(if stB s rs (vs++[x]) vs.length=true then cv s gi rs f (vs++[x]) else [])=(enS s f ((vs++[x])++gi.drop (vs++[x]).length) (vs.length+1)).filter (fitB s gi rs):=fun x x1 x2 xg=>by
    by_cases h:stB s rs (vs++[x]) vs.length=true
    ·rw [if_pos h,ih (vs++[x]) (by rw [List.length_append,List.length_singleton];omega) ?_ ?_]
     ·rw [List.length_append,List.length_singleton]
     ·intro i hi;rw [List.length_append,List.length_singleton] at hi;rw [nth_push rfl]
      by_cases e:i<vs.length
      ·rw [if_pos e];exact hvs i e
      ·obtain rfl:i=vs.length:=by omega
       rw [if_neg e,if_pos rfl];exact ⟨x1,x2,xg⟩
     ·intro p hp;rw [List.length_append,List.length_singleton] at hp
      by_cases e:p<vs.length
      ·rw [List.take_append_of_le_length (by omega)];exact hst p e
      ·obtain rfl:p=vs.length:=by omega
       rw [List.take_of_length_le (by simp)];exact h
    ·rw [if_neg h]
     symm
     rw [List.filter_eq_nil_iff];intro y hy hfy;rw [<- hset x] at hy;have hl2:((vs++gi.drop vs.length).set vs.length x).length=s*s:=(by rw [List.length_set];exact hlen)
     have hg2:∀ i,i<s*s->0<=nth ((vs++gi.drop vs.length).set vs.length x) i/\nth ((vs++gi.drop vs.length).set vs.length x) i<=(s:Int):=fun i hi=>by
      rw [nth_set (by omega)]
      split
      ·omega
      ·exact hgrid i hi
     obtain ⟨q1,q2,_⟩:=enS_full hs (by omega) hl2 hg2 hy;obtain ⟨_,b,c⟩:=enS_in f _ _ y hy (by omega)
     have hpre:∀ i,i<vs.length+1->nth y i=nth (vs++[x]) i:=fun i hi=>by
      rw [b i hi,nth_set (by omega),nth_push rfl]
      by_cases e:i<vs.length
      ·rw [if_neg (by omega),if_pos e]
       simp [nth,List.getD_eq_getElem?_getD,List.getElem?_append_left e]
      ·rw [if_pos (by omega),if_neg e,if_pos (by omega)]
     have hfull:∀ i,i<s*s->nth y i≠0:=fun i hi=>by
      by_cases e:i<vs.length+1
      ·rw [hpre i e,nth_push rfl]
       by_cases e2:i<vs.length
       ·rw [if_pos e2];have:=hvs i e2;omega
       ·rw [if_neg e2,if_pos (by omega)];omega
      ·obtain ⟨c1,c2⟩:=c i (by omega) (by omega)
       by_cases h0:0<nth ((vs++gi.drop vs.length).set vs.length x) i
       ·rw [c1 h0];omega
       ·obtain ⟨u,e3,u1,_⟩:=rep_mem.1 (c2 h0);omega
     have htake:y.take (vs.length+1)=vs++[x]:=by
      apply ext_nth (by rw [List.length_take,q1,List.length_append,List.length_singleton];omega)
      intro k hk;rw [List.length_take] at hk;rw [nth_take (by omega)];exact hpre k (by omega)
     have:=fit_st hs hr q1 q2 hfull hfy hpn;rw [htake] at this;exact h this
   simp only [cv,enS];rw [hgp]
   by_cases h0:0<nth gi vs.length
   ·rw [if_pos h0];have ho:=hok _ hpn;obtain ⟨u,hu⟩:=Int.eq_ofNat_of_zero_le (show 0<=nth gi vs.length by omega);have hc:candN gi s vs.length=2^u:=(by unfold candN;rw [if_pos h0,hu,Int.toNat_natCast]);rw [hc,bits_pow u (by omega) (by omega)];simp only [List.flatMap_cons,List.flatMap_nil,List.append_nil];rw [<- hu,one (nth gi vs.length) (by omega) (by omega) (fun _=>rfl),<-hset]
    have:(vs++gi.drop vs.length).set vs.length (nth gi vs.length)=vs++gi.drop vs.length:=by
     apply ext_nth (by rw [List.length_set])
     intro k hk;rw [List.length_set] at hk;rw [nth_set (by omega)]
     split
     ·next e=>subst e;exact hgp.symm
     ·rfl
    rw [this]
   ·rw [if_neg h0];have ho:=hok _ hpn;have hc:candN gi s vs.length=candTo gi s vs.length s:=(by unfold candN;rw [if_neg h0,Int.toNat_natCast])
    rw [hc,bits_rep _ hs4 (fun u hu=>by
      cases hb:(candTo gi s vs.length s).testBit u
      ·rfl
      ·have:=(candTo_test gi s vs.length u s).1 hb;omega),List.filter_flatMap]
    apply flat_congr
    intro x hx;obtain ⟨u,rfl,u1,u2⟩:=rep_mem.1 hx;rw [Int.toNat_natCast,hset,<-one u (by omega) (by omega) (fun h=>absurd h h0)]
    by_cases hb:(candTo gi s vs.length s).testBit u=true
    ·rw [if_pos hb]
    ·rw [if_neg hb]
     symm
     rw [one u (by omega) (by omega) (fun h=>absurd h h0),List.filter_eq_nil_iff];intro y hy hfy;rw [<- hset] at hy;have hl2:((vs++gi.drop vs.length).set vs.length (u:Int)).length=s*s:=(by rw [List.length_set];exact hlen)
     have hg2:∀ i,i<s*s->0<=nth ((vs++gi.drop vs.length).set vs.length (u:Int)) i/\nth ((vs++gi.drop vs.length).set vs.length (u:Int)) i<=(s:Int):=fun i hi=>by
      rw [nth_set (by omega)]
      split
      ·omega
      ·exact hgrid i hi
     obtain ⟨q1,q2,_⟩:=enS_full hs (by omega) hl2 hg2 hy;obtain ⟨_,b,c⟩:=enS_in f _ _ y hy (by omega)
     apply hb
     rw [candTo_test,Int.toNat_natCast];refine ⟨u1,u2,(ok3_adj hs hpn _).2 (fun i hi ha e=>?_)⟩;simp only [fitB,Bool.and_eq_true,List.all_eq_true,List.mem_range,Bool.not_eq_true'] at hfy;obtain ⟨⟨f1,_⟩,f3⟩:=hfy;have hyp:nth y vs.length=(u:Int):=(by rw [b _ (by omega),nth_set (by omega),if_pos rfl]);have hne:=(adj_ne s i vs.length).1 ha;have hgy:giveOk gi y i=true:=f1 i (by omega)
     have hy0:0<nth y i:=by
      by_cases e2:i<vs.length+1
      ·rw [b i e2,nth_set (by omega),if_neg (by omega)];have:nth (vs++gi.drop vs.length) i=nth vs i:=(by simp [nth,List.getD_eq_getElem?_getD,List.getElem?_append_left (show i<vs.length by omega)]);rw [this];have:=hvs i (by omega);omega
      ·obtain ⟨c1,c2⟩:=c i (by omega) (by omega)
       by_cases h3:0<nth ((vs++gi.drop vs.length).set vs.length (u:Int)) i
       ·rw [c1 h3];exact h3
       ·obtain ⟨u',e3,u1',_⟩:=rep_mem.1 (c2 h3);omega
     have hyi:nth y i=(u:Int):=by
      unfold giveOk at hgy;rw [e] at hgy
      simp [hy0] at hgy
      exact hgy.resolve_left (by omega)
     have:clash y s=true:=(clash_iff hs).2 ⟨i,vs.length,hi,hpn,ha,by rw [hyi,hyp],by omega⟩;rw [f3] at this;cases this
 have:=key (s*s) [] (by simp) (fun i hi=>absurd hi (by simp)) (fun p hp=>absurd hp (by simp))
 simpa using this
theorem ones64_any (M:Nat) (h:M<32) (he:M%2=0) (w:World):Calls Tryz.prog 147 #[.int .u64 M] w fun e w'=>e=.returned (.int .i64 (Lib.onesCount M:Nat))/\w=w':=by
 have:M=0\/M=2\/M=4\/M=6\/M=8\/M=10\/M=12\/M=14\/M=16\/M=18\/M=20\/M=22\/M=24\/M=26\/M=28\/M=30:=by omega
 rcases this with rfl|rfl|rfl|rfl|rfl|rfl|rfl|rfl|rfl|rfl|rfl|rfl|rfl|rfl|rfl|rfl
 all_goals
  go_enter Tryz.func147,Tryz.ntmps147
  go_wp2
  go_ret
  exact ⟨by kernel_rfl,rfl⟩
theorem ones_any (M:Nat) (h:M<32) (he:M%2=0) (w:World):Calls Tryz.prog 100 #[.int .u64 M] w fun e w'=>e=.returned (.int .i64 (Lib.onesCount M:Nat))/\w=w':=by
 go_enter Tryz.func100,Tryz.ntmps100
 go_wp2_with (go_at_call 147;refine (ones64_any M h he _).mono ?_;rintro e w' ⟨rfl,rfl⟩)
 go_ret
 exact ⟨rfl,rfl⟩
theorem ones_lt:∀ M,M<32->Lib.onesCount M<32:=by decide +kernel
theorem ones_bits:∀ M,M<32->M%2=0->Lib.onesCount M=(bitsTo M 4).length:=by decide +kernel
def tzI:List Nat:=[0,1,3,7,15,31,63,62,61,59,55,47,30,60,57,51]
def Tz (w:World):Prop:=∀ p:Nat,p<16->w.cell? ⟨0,tzI.getD p 0,none⟩=some (.int .u8 (p:Int))
theorem Tz.lt {w:World} (h:Tz w):0<w.heap.size:=cell_lt (h 0 (by decide))
theorem Tz.below {w w':World} {B:Nat} (h:Tz w) (hB:0<B) (hb:Below B w w'):Tz w':=
 fun p hp=>(hb.cell (p:=⟨0,tzI.getD p 0,none⟩) hB).trans (h p hp)
theorem tz64_core (x k idx:Nat) (w:World) (hx0:((x:Int)==0)=false)
 (key:IntKind.u64.wrap (bits BinOp.and IntKind.u64 (x:Int) (IntKind.u64.wrap (-(x:Int)))*285870213051353865)/288230376151711744=(idx:Int))
 (hi:idx<64) (hk:k<64) (hcell:w.cell? ⟨0,idx,none⟩=some (.int .u8 k)):
 Calls Tryz.prog 166 #[.int .u64 x] w fun e w'=>e=.returned (.int .i64 k)/\w=w':=by
 go_enter Tryz.func166,Tryz.ntmps166
 go_wp2_with (simp only [key])
 go_ret
 exact ⟨rfl,rfl⟩
theorem tz_core (x k idx:Nat) (w:World) (hx0:((x:Int)==0)=false)
 (key:IntKind.u64.wrap (bits BinOp.and IntKind.u64 (x:Int) (IntKind.u64.wrap (-(x:Int)))*285870213051353865)/288230376151711744=(idx:Int))
 (hi:idx<64) (hk:k<64) (hcell:w.cell? ⟨0,idx,none⟩=some (.int .u8 k)):
 Calls Tryz.prog 135 #[.int .u64 x] w fun e w'=>e=.returned (.int .i64 k)/\w=w':=by
 have Key:=Lib.hid key;clear key
 go_enter Tryz.func135,Tryz.ntmps135
 go_wp2_with (go_at_call 166;refine (tz64_core x k idx _ hx0 Key.out hi hk hcell).mono ?_;rintro e w' ⟨rfl,rfl⟩)
 go_ret
 exact ⟨rfl,rfl⟩
theorem tz_any (M v:Nat) (w:World) (hT:Tz w) (h:(M=2/\v=1)\/(M=4/\v=2)\/(M=8/\v=3)\/(M=16/\v=4)):Calls Tryz.prog 135 #[.int .u64 M] w fun e w'=>e=.returned (.int .i64 v)/\w=w':=by
 have t1:=hT 1 (by decide);have t2:=hT 2 (by decide);have t3:=hT 3 (by decide);have t4:=hT 4 (by decide)
 rcases h with ⟨rfl,rfl⟩|⟨rfl,rfl⟩|⟨rfl,rfl⟩|⟨rfl,rfl⟩
 ·exact tz_core 2 1 1 w (by decide) (by decide +kernel) (by decide) (by decide) t1
 ·exact tz_core 4 2 3 w (by decide) (by decide +kernel) (by decide) (by decide) t2
 ·exact tz_core 8 3 7 w (by decide) (by decide +kernel) (by decide) (by decide) t3
 ·exact tz_core 16 4 15 w (by decide) (by decide +kernel) (by decide) (by decide) t4
def oneCase (M:Nat):Bool:=if Lib.onesCount M=1 then ((M==2&&oneOf (bitsTo M 4)==1)||(M==4&&oneOf (bitsTo M 4)==2)||(M==8&&oneOf (bitsTo M 4)==3)||(M==16&&oneOf (bitsTo M 4)==4)) else oneOf (bitsTo M 4)==0
theorem one_case:∀ M,M<32->M%2=0->oneCase M=true:=by decide +kernel
theorem onlyValue_any (M:Nat) (h:M<32) (he:M%2=0) (w:World) (hT:Tz w):Calls Tryz.prog 84 #[.int .i64 M] w fun e w'=>e=.returned (.int .i64 (oneOf (bitsTo M 4)))/\w=w':=by
 have hc:=one_case M h he;have hl:=ones_lt M h;unfold oneCase at hc;obtain ⟨p,hp⟩:∃ p,p=Lib.onesCount M:=⟨_,rfl⟩;have Ho:=Lib.hid (fun w=>ones_any M h he w);rw [<- hp] at hc hl Ho
 by_cases h1:p=1
 ·rw [if_pos h1] at hc;simp only [Bool.or_eq_true,Bool.and_eq_true,beq_iff_eq] at hc;subst h1
  have hv:∃ v,oneOf (bitsTo M 4)=(v:Nat)/\((M=2/\v=1)\/(M=4/\v=2)\/(M=8/\v=3)\/(M=16/\v=4)):=by
   rcases hc with ((⟨h1,h2⟩|⟨h1,h2⟩)|⟨h1,h2⟩)|⟨h1,h2⟩
   ·exact ⟨1,h2,.inl ⟨h1,rfl⟩⟩
   ·exact ⟨2,h2,.inr (.inl ⟨h1,rfl⟩)⟩
   ·exact ⟨3,h2,.inr (.inr (.inl ⟨h1,rfl⟩))⟩
   ·exact ⟨4,h2,.inr (.inr (.inr ⟨h1,rfl⟩))⟩
  obtain ⟨v,hv1,hv2⟩:=hv;rw [hv1];have Ht:=Lib.hid (fun w hT=>tz_any M v w hT hv2);clear hv1 hv2 hc hp
  go_enter Tryz.func84,Tryz.ntmps84
  go_wp2_with (first|(go_at_call 100;refine (Ho.out _).mono ?_;rintro e w' ⟨rfl,rfl⟩)|(go_at_call 135;refine (Ht.out _ hT).mono ?_;rintro e w' ⟨rfl,rfl⟩))
  go_ret
  exact ⟨rfl,rfl⟩
 ·rw [if_neg h1] at hc;have hv:=beq_iff_eq.1 hc;rw [hv]
  have hne:((p:Int) != 1)=true:=by simp;omega
  clear hv hc hp h1
  go_enter Tryz.func84,Tryz.ntmps84
  go_wp2_with (go_at_call 100;refine (Ho.out _).mono ?_;rintro e w' ⟨rfl,rfl⟩)
  go_ret
  exact ⟨rfl,rfl⟩
def ICandidatesOf:Prop:=∀ (A:Option Addr) (c n B:Nat) (xs:List Int) (size:Int) (w:World),Rd w B A n xs->B<=w.heap.size->n<=1099511627776->
    Calls Tryz.prog 162 #[.slice A n c,.int .i64 size] w (RetSl w (candL xs size))
def IMasksValid:Prop:=∀ (A:Option Addr) (c n B:Nat) (xs:List Int) (size:Int) (w:World),Rd w B A n xs->B64 xs->B<=w.heap.size->n<=1099511627776->(-9223372036854775808<=size/\size<=9223372036854775807)->
    Calls Tryz.prog 83 #[.slice A n c,.int .i64 size] w fun e w'=>e=.returned (.bool (mvd xs size))/\Below w.heap.size w w'
def IMasksGrid:Prop:=∀ (A:Option Addr) (c n B:Nat) (xs:List Int) (size:Int) (w:World),Rd w B A n xs->B64 xs->Tz w->B<=w.heap.size->n<=1099511627776->(-9223372036854775808<=size/\size<=9223372036854775807)->
    Calls Tryz.prog 31 #[.slice A n c,.int .i64 size] w (RetSl w (mgL xs size))
theorem maskValid_any (x:Int) (s:Nat) (w:World) (hs:s∈[2,3,4]) (hx: -9223372036854775808<=x/\x<=9223372036854775807):
 Calls Tryz.prog 134 #[.int .i64 x,.int .i64 s] w fun e w'=>e=.returned (.bool (mkOk ((2:Int)^(s+1)-2) x))/\w=w':=by
 have hs4:s<=4:=by simp at hs;omega
 have ha:=andNot_ok x s hs4 hx;obtain ⟨m,hm⟩:∃ m,2^(s+1)-2=m:=⟨_,rfl⟩;rw [hm] at ha
 go_enter Tryz.func134,Tryz.ntmps134
 go_wp2_with (go_at_call 133;refine (allValues_any s hs _).mono ?_;rw [hm];rintro e w' ⟨rfl,rfl⟩)
 go_ret
 exact ⟨by rw [<- ha];rfl,rfl⟩
theorem implMasksValid:IMasksValid:=by
 intro A c n B xs size w h hx64 hB hm hsz;have hlen:=Lib.hid h.1;cases hs:inr size 2 4
 ·have HL:=Lib.hid (show mvd xs size=false by simp [mvd,hs])
  go_enter Tryz.func83,Tryz.ntmps83
  go_wp2_with (go_at_call 67;refine (sizeValid_any _ _).mono ?_;rintro e w' ⟨rfl,rfl⟩)
  go_ret
  exact ⟨by rw [HL.out];rfl,Below.refl _ _⟩
 ·obtain ⟨h2,h4⟩:=inr_t hs;have hw:=sq_wrap h2 h4;cases hsq:((n:Int)==size*size)
  ·have HL:=Lib.hid (show mvd xs size=false by simp only [mvd,hlen.out,hsq];simp);have hsq2:((n:Int) != wrap64 (size*size))=true:=(by rw [hw,bne,hsq];rfl);clear hw hsq
   go_enter Tryz.func83,Tryz.ntmps83
   go_wp2_with (go_at_call 67;refine (sizeValid_any _ _).mono ?_;rintro e w' ⟨rfl,rfl⟩)
   go_ret
   exact ⟨by rw [HL.out];rfl,Below.refl _ _⟩
  ·obtain ⟨s,rfl⟩:=Int.eq_ofNat_of_zero_le (by omega:0<=size)
   have hsm:s∈[2,3,4]:=by
    have:s=2\/s=3\/s=4:=(by omega)
    simpa using this
   have HL:=Lib.hid (show mvd xs s=xs.all (mkOk ((2:Int)^(s+1)-2)) by simp only [mvd,hlen.out,hsq,hs,Int.toNat_natCast,Bool.true_and]);have hsq2:((n:Int) != wrap64 ((s:Int)*s))=false:=(by rw [hw,bne,hsq];rfl);clear hw hsq
   go_enter Tryz.func83,Tryz.ntmps83
   go_wp2_with (go_at_call 67;refine (sizeValid_any _ _).mono ?_;rintro e w' ⟨rfl,rfl⟩)
   go_loop [20] (fun i=>∃ k:Nat,k<=n/\i=.int .i64 k/\Hid (allTo (mkOk ((2:Int)^(s+1)-2)) xs k)) (fun i=>n-(intOf i).toNat)
   case atStart=>exact ⟨0,Nat.zero_le _,rfl,Lib.hid (fun j hj=>absurd hj (by omega))⟩
   case round=>
    obtain ⟨k,hk,rfl,hall⟩:=hrel
    by_cases hlt:k<n
    ·obtain ⟨b,off,rfl,hb,hck⟩:=h.at_ hlt;cases hok:mkOk ((2:Int)^(s+1)-2) (nth xs k)
     ·have Hf:=Lib.hid (show mvd xs s=false by rw [HL.out];exact all_not hlen.out hlt hok)
      go_wp2_with (go_at_call 134;refine (maskValid_any (nth xs k) s _ hsm (hx64 k)).mono ?_;rw [hok];rintro e w' ⟨rfl,rfl⟩)
      go_ret
      exact ⟨by rw [Hf.out];rfl,Below.refl _ _⟩
     ·have hn2:=Lib.hid (allTo_succ hall.out hok)
      go_wp2_with (go_at_call 134;refine (maskValid_any (nth xs k) s _ hsm (hx64 k)).mono ?_;rw [hok];rintro e w' ⟨rfl,rfl⟩)
      go_round
      case rel=>exact ⟨k+1,by omega,by go_num,hn2⟩
      case measure=>simp [intOf];omega
    ·obtain rfl:k=n:=by omega
     have Hf:=Lib.hid (show mvd xs s=true by rw [HL.out];exact allTo_all hall.out hlen.out)
     go_wp2
     go_ret
     exact ⟨by rw [Hf.out];rfl,Below.refl _ _⟩
set_option maxRecDepth 8000
def inMask (m g:List Int) (k:Nat):Bool:=(nth m k).toNat.testBit (nth g k).toNat
def mhB (m:List Int) (s:Int) (g:List Int):Bool:=mvd m s&&gv g s&&(List.range g.length).all (inMask m g)
theorem all_done {f:Nat->Bool} {n:Nat} (h:∀ k,k<n->f k=true):(List.range n).all f=true:=by
 rw [List.all_eq_true]
 exact fun k hk=>h k (List.mem_range.1 hk)
set_option maxRecDepth 8000
set_option maxRecDepth 8000
def Wi (a b:List Int):Prop:=∀ k,k<b.length->bits .andNot .i64 (nth a k) (nth b k)=0
theorem an_self:∀ x,x<32->bits .andNot .i64 (x:Nat) (x:Nat)=0:=by decide +kernel
theorem an_and:∀ x,x<32->∀ v,v<5->∀ y,y<32->bits .andNot .i64 (x:Nat) (y:Nat)=0->bits .andNot .i64 (bits .and .i64 (x:Nat) (2^v)) (y:Nat)=0:=by decide +kernel
theorem and_bit:∀ x,x<32->∀ v,v<5->(bits .and .i64 (x:Nat) (2^v)).toNat.testBit v=x.testBit v:=by decide +kernel
theorem Wi.refl {m:List Int} {s:Int} (hm:mvd m s=true):Wi m m:=fun k hk=>by
 obtain ⟨x0,x1,_⟩:=mvd_nth hm k;obtain ⟨x,hx⟩:=Int.eq_ofNat_of_zero_le x0;rw [hx];exact an_self x (by omega)
set_option maxRecDepth 8000
theorem line_at {s u:Nat} (hs:s∈[2,3,4]) (hu:u<2*s):∀ j,j<s->(lineAt s u j).toNat<s*s:=by
 intro j hj
 simp at hs
 by_cases hx:(u:Int)<(s:Int)
 ·rw [lineAt_row hx]
  rcases hs with rfl|rfl|rfl<;>omega
 ·rw [lineAt_col hx]
  rcases hs with rfl|rfl|rfl<;>omega
theorem hC_none {m:List Int} {S u:Int} {v:Nat}:∀ {N:Nat},hC m S u v N=0->∀ k,k<N->hB m S u v k=false:=by
 intro N
 induction N with
 |zero=>intro _ k hk;omega
 |succ N ih=>
  intro h k hk;simp only [hC] at h
  split at h
  ·omega
  ·next hn=>
   by_cases e:k=N
   ·subst e;simpa using hn
   ·exact ih h k (by omega)
theorem hL_one {m:List Int} {S u:Int} {v:Nat}:∀ {N:Nat},hC m S u v N=1->∀ k,k<N->hB m S u v k=true->hL m S u v N=(lineAt S u k).toNat:=by
 intro N
 induction N with
 |zero=>intro _ k hk;omega
 |succ N ih=>
  intro h k hk hb;simp only [hC] at h;simp only [hL]
  split at h
  ·next hn=>
   rw [if_pos hn]
   by_cases e:k=N
   ·subst e;rfl
   ·have:=hC_none (by omega:hC m S u v N=0) k (by omega);rw [hb] at this;cases this
  ·next hn=>
   rw [if_neg hn]
   by_cases e:k=N
   ·subst e;exact absurd hb hn
   ·exact ih h k (by omega) hb
theorem inr_bit {x:Int} (h0:0<=x) (h1:x<=30) {v:Nat} (hv:v<=4):(bits .and .i64 x (2^v)).toNat.testBit v=x.toNat.testBit v:=by
 obtain ⟨y,rfl⟩:=Int.eq_ofNat_of_zero_le h0;rw [Int.toNat_natCast];exact and_bit y (by omega) v (by omega)
theorem hVs_in {m g o:List Int} {s:Nat} {u:Nat} (hs:s∈[2,3,4]) (hm:mvd m s=true) (hsb:Sub o m) (hu:u<2*s)
 (hg:∀ v:Nat,1<=v->v<=s->∃ i,i<s/\lineV g s u i=v) (hin:∀ k,k<s*s->inMask m g k=true) (ho:∀ k,k<s*s->inMask o g k=true) (r:Nat) (hr:r<=s):∀ k,k<s*s->inMask (hVs m s s u o r) g k=true:=by
 induction r with
 |zero=>exact ho
 |succ r ih=>
  have ih:=ih (by omega);simp only [hVs]
  split
  ·next h1=>
   obtain ⟨i,hi,hv⟩:=hg (r+1) (by omega) hr;have hp:=line_at hs hu i hi
   have hbi:hB m s u (r+1) i=true:=by
    have:=hin _ hp;unfold inMask at this;unfold hB;unfold lineV at hv;rw [hv] at this;exact this
   have he:=hL_one h1 i hi hbi;rw [he]
   have hln:m.length=s*s:=by
    have:=(mvd_at hm).2.1
    simp at hs
    rcases hs with rfl|rfl|rfl<;>omega
   have hlo:(hVs m s s u o r).length=s*s:=(by rw [hVs_len,hsb.1,hln]);intro k hk;unfold inMask;rw [nth_set (by rw [hlo];exact hp)]
   split
   ·next e=>
    subst e;have hs4:s<=4:=(by simp at hs;omega);have hsub:=hVs_sub (u:=(u:Int)) (S:=(s:Int)) (N:=s) hm hsb r (by omega);obtain ⟨⟨x0,x1,_⟩,_⟩:=hsub.at_ hm (by rw [hln];exact hp);have:=ih _ hp;unfold inMask at this;unfold lineV at hv;rw [hv] at this ⊢;have e2:((r+1:Nat):Int).toNat=r+1:=(by omega);rw [e2] at this ⊢;rw [inr_bit x0 x1 (by omega)];exact this
   ·exact ih k hk
  ·exact ih
theorem hU_in {m g:List Int} {s:Nat} (hs:s∈[2,3,4]) (hm:mvd m s=true)
 (hg:∀ u,u<2*s->∀ v:Nat,1<=v->v<=s->∃ i,i<s/\lineV g s (u:Nat) i=v) (hin:∀ k,k<s*s->inMask m g k=true) (u:Nat) (hu:u<=2*s):∀ k,k<s*s->inMask (hU m s s u) g k=true:=by
 have hs4:s<=4:=by simp at hs;omega
 induction u with
 |zero=>exact hin
 |succ u ih=>
  simp only [hU];exact hVs_in hs hm (hU_sub hm hs4 u) (by omega) (hg u (by omega)) hin (ih (by omega)) s (Nat.le_refl _)
theorem sol_lines {g:List Int} {s:Nat} (hs:s∈[2,3,4]) (hl:g.length=s*s) (h:sqSolved g s=true):∀ u,u<2*s->∀ v:Nat,1<=v->v<=s->∃ i,i<s/\lineV g s (u:Nat) i=v:=by
 obtain ⟨h1,h2,h3⟩:=(solved_iff hl).1 h;intro u hu v v1 v2
 have hd:dupTo (lineV g s (u:Nat)) s=false:=by
  cases e:dupTo (lineV g s (u:Nat)) s
  ·rfl
  ·have:=clash_at (xs:=g) (size:=(s:Int)) (l:=u) (by omega) (by rw [Int.toNat_natCast];exact e);rw [h2] at this;cases this
 have:=pig (f:=lineV g s (u:Nat)) hs (fun i hi=>by
  have hp:=line_at hs hu i hi;have hz:=h3 _ hp;obtain ⟨q0,q1⟩:=gv_nth h1 (k:=(lineAt s u i).toNat) (by rw [hl];exact hp);unfold lineV
  omega) hd (v:=(v:Int)) (by omega) (by omega)
 exact hasTo_iff.1 this
theorem nh_keeps {m g:List Int} {s:Int} (hm:mvd m s=true) (hg:sqSolved g s=true) (h:mhB m s g=true):mhB (nhL m s) s g=true:=by
 obtain ⟨⟨s2,s4⟩,hlm,_,_⟩:=mvd_at hm;obtain ⟨t,rfl⟩:∃ t:Nat,s=t:=⟨s.toNat,by omega⟩
 have hs:t∈[2,3,4]:=by simp;omega
 simp only [mhB,Bool.and_eq_true,List.all_eq_true,List.mem_range] at h ⊢;obtain ⟨⟨_,hgv⟩,hin⟩:=h;have hlg:=gv_len hgv
 have hln:g.length=t*t:=by
  simp at hs
  rcases hs with rfl|rfl|rfl<;>omega
 refine ⟨⟨(nh_sub hm).mvd_ hm,hgv⟩,?_⟩;rw [hln] at hin ⊢;have:=hU_in hs hm (sol_lines hs hln hg) hin (2*t) (Nat.le_refl _);unfold nhL;rw [if_pos hm,Int.toNat_natCast];exact this
theorem hVs_wi {m o:List Int} {s:Int} {S:Int} {N:Nat} {u:Int} (hm:mvd m s=true) (h:Sub o m) (hw:Wi o m) (r:Nat) (hr:r<=4):Wi (hVs m S N u o r) m:=by
 induction r with
 |zero=>exact hw
 |succ r ih=>
  have ih:=ih (by omega);simp only [hVs]
  split
  ·have hsub:=hVs_sub (u:=u) (S:=S) (N:=N) hm h r (by omega);intro k hk;rw [show nth ((hVs m S N u o r).set (hL m S u (r+1) N) (bits .and .i64 (nth (hVs m S N u o r) (hL m S u (r+1) N)) (2^(r+1)))) k=if hL m S u (r+1) N=k then bits .and .i64 (nth (hVs m S N u o r) (hL m S u (r+1) N)) (2^(r+1)) else nth (hVs m S N u o r) k from ?_]
   ·split
    ·next e=>
     rw [e];obtain ⟨⟨x0,x1,_⟩,_⟩:=hsub.at_ hm hk;obtain ⟨y0,y1,_⟩:=mvd_nth hm k;have hz:=ih k hk;obtain ⟨x,hx⟩:=Int.eq_ofNat_of_zero_le x0;obtain ⟨y,hy⟩:=Int.eq_ofNat_of_zero_le y0;rw [hx,hy] at hz ⊢;exact an_and x (by omega) (r+1) (by omega) y (by omega) hz
    ·exact ih k hk
   ·by_cases hj:hL m S u (r+1) N<(hVs m S N u o r).length
    ·exact nth_set hj
    ·rw [List.set_eq_of_length_le (by omega)];rw [if_neg (by have:=hsub.1;omega)]
  ·exact ih
theorem hU_wi {m:List Int} {s S:Int} {N:Nat} (hm:mvd m s=true) (hN:N<=4) (u:Nat):Wi (hU m S N u) m:=by
 induction u with
 |zero=>exact Wi.refl hm
 |succ u ih=>simp only [hU];exact hVs_wi hm (hU_sub hm hN u) ih N hN
theorem nh_wi {m:List Int} {s:Int} (hm:mvd m s=true):Wi (nhL m s) m:=by
 unfold nhL;rw [if_pos hm];exact hU_wi hm (by have:=(mvd_at hm).1;omega) _
set_option maxRecDepth 8000
def itN (s c v:Nat):Nat:=2^c|||2^((s+c/s)*s+v-1)|||2^((s+(s+c%s))*s+v-1)
def lf (s:Nat) (us:List Int):Nat->Nat
 |0=>2^(3*s*s)-1
 |p+1=>anU (lf s us p) (itN s p (nth us p).toNat)
def itChk (s:Nat):Bool:=(List.range (s*s)).all fun c=>(List.range s).all fun w=>decide (itN s c (w+1)<2^(3*s*s))&&(itN s c (w+1)).testBit c&&(itN s c (w+1)).testBit (s*s+c/s*s+w)&&(itN s c (w+1)).testBit (2*(s*s)+c%s*s+w)&&
 (List.range (s*s)).all fun i=>(List.range s).all fun x=>(i==c)||(!(itN s i (x+1)).testBit c&&((itN s c (w+1)&&&itN s i (x+1)) != 0)==(adj s i c&&w==x))
theorem itChk_all:itChk 2=true/\itChk 3=true/\itChk 4=true:=by decide +kernel
theorem it_at {s:Nat} (hs:s∈[2,3,4]) {c v:Nat} (hc:c<s*s) (v1:1<=v) (v2:v<=s):itN s c v<2^(3*s*s)/\(itN s c v).testBit c=true/\(itN s c v).testBit (s*s+c/s*s+(v-1))=true/\(itN s c v).testBit (2*(s*s)+c%s*s+(v-1))=true/\
 ∀ i x,i<s*s->1<=x->x<=s->i≠c->(itN s i x).testBit c=false/\(((itN s c v&&&itN s i x) != 0)=(adj s i c&&v==x)):=by
 have h:itChk s=true:=by
  simp at hs
  rcases hs with rfl|rfl|rfl
  ·exact itChk_all.1
  ·exact itChk_all.2.1
  ·exact itChk_all.2.2
 unfold itChk at h;have h1:=List.all_eq_true.1 (List.all_eq_true.1 h c (List.mem_range.2 hc)) (v-1) (List.mem_range.2 (by omega));rw [show v-1+1=v by omega] at h1;simp only [Bool.and_eq_true,decide_eq_true_eq] at h1;obtain ⟨⟨⟨⟨a1,a2⟩,a3⟩,a4⟩,a5⟩:=h1;refine ⟨a1,a2,a3,a4,fun i x hi x1 x2 hne=>?_⟩;have h2:=List.all_eq_true.1 (List.all_eq_true.1 a5 i (List.mem_range.2 hi)) (x-1) (List.mem_range.2 (by omega));rw [show x-1+1=x by omega] at h2;simp only [Bool.or_eq_true,beq_iff_eq,Bool.and_eq_true,Bool.not_eq_true'] at h2;obtain ⟨b1,b2⟩:=h2.resolve_left hne
 refine ⟨b1,?_⟩;rw [b2]
 congr 1
 rw [Bool.eq_iff_iff,beq_iff_eq,beq_iff_eq];omega
theorem pow48 {s:Nat} (hs:s∈[2,3,4]):2^(3*s*s)<=2^48:=by
 simp at hs
 rcases hs with rfl|rfl|rfl<;>decide
theorem lf_lt {s:Nat} (us:List Int) (p:Nat):lf s us p<2^(3*s*s):=by
 induction p with
 |zero=>simp only [lf];have:=Nat.two_pow_pos (3*s*s);omega
 |succ p ih=>exact Nat.lt_of_le_of_lt (anU_le _ _) ih
theorem lf_lt64 {s:Nat} (hs:s∈[2,3,4]) (us:List Int) (p:Nat):lf s us p<2^64:=
 Nat.lt_of_lt_of_le (lf_lt us p) (Nat.le_trans (pow48 hs) (by decide))
def vsOk (s:Nat) (us:List Int) (p:Nat):Prop:=∀ i,i<p->1<=(nth us i).toNat/\(nth us i).toNat<=s
theorem it_lt64 {s:Nat} (hs:s∈[2,3,4]) {c v:Nat} (hc:c<s*s) (v1:1<=v) (v2:v<=s):itN s c v<2^64:=
 Nat.lt_of_lt_of_le (it_at hs hc v1 v2).1 (Nat.le_trans (pow48 hs) (by decide))
theorem lf_bit {s:Nat} (hs:s∈[2,3,4]) {us:List Int}:∀ {p:Nat},p<=s*s->vsOk s us p->∀ j,(lf s us p).testBit j=true↔j<3*s*s/\∀ i,i<p->(itN s i (nth us i).toNat).testBit j=false:=by
 intro p
 induction p with
 |zero=>
  intro _ _ j;simp only [lf];rw [Nat.testBit_two_pow_sub_one,decide_eq_true_eq];exact ⟨fun h=>⟨h,fun i hi=>absurd hi (by omega)⟩,fun h=>h.1⟩
 |succ p ih=>
  intro hp hv j;obtain ⟨v1,v2⟩:=hv p (by omega);simp only [lf];rw [anU_bit (lf_lt64 hs us p) (it_lt64 hs (by omega) v1 v2),Bool.and_eq_true,Bool.not_eq_true',ih (by omega) (fun i hi=>hv i (by omega))]
  constructor
  ·rintro ⟨⟨h1,h2⟩,h3⟩;refine ⟨h1,fun i hi=>?_⟩
   by_cases e:i=p
   ·subst e;exact h3
   ·exact h2 i (by omega)
  ·rintro ⟨h1,h2⟩;exact ⟨⟨h1,fun i hi=>h2 i (by omega)⟩,h2 p (by omega)⟩
theorem lf_low {s:Nat} (hs:s∈[2,3,4]) {us:List Int} {p:Nat} (hp:p<s*s) (hv:vsOk s us p):(lf s us p).testBit p=true/\∀ j,j<p->(lf s us p).testBit j=false:=by
 constructor
 ·rw [lf_bit hs (by omega) hv];refine ⟨?_,fun i hi=>?_⟩
  ·have:3*s*s=3*(s*s):=Nat.mul_assoc ..;omega
  ·obtain ⟨v1,v2⟩:=hv i hi;exact ((it_at hs hp (Nat.le_refl 1) (by simp at hs;omega)).2.2.2.2 i _ (by omega) v1 v2 (by omega)).1
 ·intro j hj;cases h:(lf s us p).testBit j
  ·rfl
  ·have:=((lf_bit hs (by omega) hv j).1 h).2 j hj;obtain ⟨v1,v2⟩:=hv j hj;rw [(it_at hs (by omega) v1 v2).2.1] at this;cases this
theorem lf_conf {s:Nat} (hs:s∈[2,3,4]) {us:List Int} {p v:Nat} (hp:p<s*s) (hl:us.length=p) (hv:vsOk s us p) (v1:1<=v) (v2:v<=s):(anU (itN s p v) (lf s us p)==0)=noConf s (us++[(v:Int)]) p:=by
 have hit:=it_lt64 hs hp v1 v2;have hlf:=lf_lt64 hs us p;obtain ⟨i1,_,_,_,i5⟩:=it_at hs hp v1 v2
 have hn:∀ i,i<p->nth (us++[(v:Int)]) i=nth us i/\nth (us++[(v:Int)]) p=v:=fun i hi=>by
  rw [nth_push hl,nth_push hl,if_pos hi,if_neg (by omega),if_pos rfl];exact ⟨rfl,rfl⟩
 have key:∀ i,i<p->(((itN s p v&&&itN s i (nth us i).toNat) != 0)=(adj s i p&&(nth (us++[(v:Int)]) i==nth (us++[(v:Int)]) p))):=fun i hi=>by
  obtain ⟨x1,x2⟩:=hv i hi;rw [(i5 i _ (by omega) x1 x2 (by omega)).2,(hn i hi).1,(hn i hi).2]
  congr 1
  rw [Bool.eq_iff_iff,beq_iff_eq,beq_iff_eq];omega
 rw [Bool.eq_iff_iff,beq_iff_eq];simp only [noConf,List.all_eq_true,List.mem_range]
 constructor
 ·intro h i hi;rw [<- key i hi];cases e:(itN s p v&&&itN s i (nth us i).toNat) != 0
  ·rfl
  ·obtain ⟨j,hj⟩:=bit_of_ne (bne_iff_ne.1 e);rw [Nat.testBit_and,Bool.and_eq_true] at hj
   have hb:(anU (itN s p v) (lf s us p)).testBit j=true:=by
    rw [anU_bit hit hlf,hj.1,Bool.true_and,Bool.not_eq_true'];cases e2:(lf s us p).testBit j
    ·rfl
    ·have:=((lf_bit hs (by omega) hv j).1 e2).2 i hi;rw [hj.2] at this;cases this
   rw [h,Nat.zero_testBit] at hb;cases hb
 ·intro h
  apply Nat.eq_of_testBit_eq
  intro j;rw [Nat.zero_testBit,anU_bit hit hlf];cases hj:(itN s p v).testBit j
  ·rfl
  ·rw [Bool.true_and,Bool.not_eq_false',lf_bit hs (by omega) hv];refine ⟨?_,fun i hi=>?_⟩
   ·rcases Nat.lt_or_ge j (3*s*s) with h1|h1
    ·exact h1
    ·rw [Nat.testBit_lt_two_pow (Nat.lt_of_lt_of_le i1 (Nat.pow_le_pow_right (by omega) h1))] at hj;cases hj
   ·have h1:=h i hi;rw [<- key i hi,Bool.not_eq_true',bne_eq_false_iff_eq] at h1;cases e:(itN s i (nth us i).toNat).testBit j
    ·rfl
    ·have:(itN s p v&&&itN s i (nth us i).toNat).testBit j=true:=(by rw [Nat.testBit_and,hj,e];rfl);rw [h1,Nat.zero_testBit] at this;cases this
theorem lf_done {s:Nat} (hs:s∈[2,3,4]) {us:List Int} (hl:us.length=s*s) (hr:∀ i,i<s*s->1<=nth us i/\nth us i<=s) (hc:∀ p,p<s*s->noConf s (us.take (p+1)) p=true):lf s us (s*s)=0:=by
 have hv:vsOk s us (s*s):=fun i hi=>by have:=hr i hi;omega
 have hgv:gv us s=true:=okAll_gv' hs hl (fun i hi=>by have:=hr i hi;omega)
 have hclash:clash us s=false:=by
  have hne:∀ i j,i<j->j<s*s->adj s i j=true->nth us i≠nth us j:=fun i j hij hj ha e=>by
   have:=hc j hj;simp only [noConf,List.all_eq_true,List.mem_range,Bool.not_eq_true',Bool.and_eq_false_iff] at this
   rcases this i hij with h1|h1
   ·rw [ha] at h1;cases h1
   ·rw [nth_take (by omega),nth_take (by omega),e] at h1
    simp at h1
  cases e:clash us s
  ·rfl
  ·obtain ⟨i,j,hi,hj,ha,e1,_⟩:=(clash_iff hs).1 e;have hij:=(adj_ne s i j).1 ha
   rcases Nat.lt_or_gt_of_ne hij with hlt|hlt
   ·exact absurd e1 (hne i j hlt hj ha)
   ·exact absurd e1.symm (hne j i hlt hi (by rw [<- adj_sym s hs i hi j hj];exact ha))
 have hsol:sqSolved us s=true:=(solved_iff hl).2 ⟨hgv,hclash,fun k hk=>by have:=hr k hk;omega⟩;have hline:=sol_lines hs hl hsol
 have hs0:0<s:=by simp at hs;omega
 apply Nat.eq_of_testBit_eq
 intro j;rw [Nat.zero_testBit];cases h:(lf s us (s*s)).testBit j
 ·rfl
 ·exfalso
  obtain ⟨h1,h2⟩:=(lf_bit hs (Nat.le_refl _) hv j).1 h;have hm:3*s*s=3*(s*s):=Nat.mul_assoc ..
  have hq:∀ q,q<s*s->q/s<s/\q%s<s/\q=q/s*s+q%s:=fun q hq=>by
   refine ⟨Nat.div_lt_of_lt_mul hq,Nat.mod_lt _ hs0,?_⟩;have:=Nat.div_add_mod q s;rw [Nat.mul_comm] at this;omega
  by_cases c1:j<s*s
  ·obtain ⟨v1,v2⟩:=hv j c1;have:=h2 j c1;rw [(it_at hs c1 v1 v2).2.1] at this;cases this
  ·by_cases c2:j<2*(s*s)
   ·obtain ⟨q1,q2,q3⟩:=hq (j-s*s) (by omega);obtain ⟨i,hi,e⟩:=hline ((j-s*s)/s) (by omega) ((j-s*s)%s+1) (by omega) (by omega);have hu:(((j-s*s)/s:Nat):Int)<(s:Int):=(by omega)
    have hcell:(lineAt (s:Int) (((j-s*s)/s:Nat):Int) i).toNat=(j-s*s)/s*s+i:=by
     rw [lineAt_row hu]
     generalize (j-s*s)/s=r
     have:(r:Int)*s=((r*s:Nat):Int):=(by simp);omega
    unfold lineV at e;rw [hcell] at e
    have hlt:(j-s*s)/s*s+i<s*s:=by
     have:(j-s*s)/s*s+s<=s*s:=(by rw [<- Nat.succ_mul];exact Nat.mul_le_mul_right _ q1);omega
    obtain ⟨v1,v2⟩:=hv _ hlt;have:=h2 _ hlt;have hb:=(it_at hs hlt v1 v2).2.2.1;rw [show ((j-s*s)/s*s+i)/s=(j-s*s)/s by rw [Nat.add_comm,Nat.add_mul_div_right _ _ hs0,Nat.div_eq_of_lt hi,Nat.zero_add],show s*s+(j-s*s)/s*s+((nth us ((j-s*s)/s*s+i)).toNat-1)=j by rw [e];simp;omega] at hb;rw [hb] at this;cases this
   ·obtain ⟨q1,q2,q3⟩:=hq (j-2*(s*s)) (by omega);obtain ⟨i,hi,e⟩:=hline (s+(j-2*(s*s))/s) (by omega) ((j-2*(s*s))%s+1) (by omega) (by omega)
    have hu:¬ ((s+(j-2*(s*s))/s:Nat):Int)<(s:Int):=by
     generalize (j-2*(s*s))/s=r
     omega
    have hcell:(lineAt (s:Int) ((s+(j-2*(s*s))/s:Nat):Int) i).toNat=i*s+(j-2*(s*s))/s:=by
     rw [lineAt_col hu]
     generalize (j-2*(s*s))/s=r
     have:(i:Int)*s=((i*s:Nat):Int):=(by simp);omega
    unfold lineV at e;rw [hcell] at e
    have hlt:i*s+(j-2*(s*s))/s<s*s:=by
     have:i*s+s<=s*s:=(by rw [<- Nat.succ_mul];exact Nat.mul_le_mul_right _ hi);omega
    obtain ⟨v1,v2⟩:=hv _ hlt;have:=h2 _ hlt;have hb:=(it_at hs hlt v1 v2).2.2.2.1;rw [show (i*s+(j-2*(s*s))/s)%s=(j-2*(s*s))/s by rw [Nat.add_comm,Nat.add_mul_mod_self_right,Nat.mod_eq_of_lt q1],show 2*(s*s)+(j-2*(s*s))/s*s+((nth us (i*s+(j-2*(s*s))/s)).toNat-1)=j by rw [e];simp;omega] at hb;rw [hb] at this;cases this
theorem low_and {L p:Nat} (hL:L<2^64) (hb:L.testBit p=true) (h0:∀ j,j<p->L.testBit j=false) (hp:p<64):L&&&(2^64-L)=2^p:=by
 have hpos:0<L:=by
  rcases Nat.eq_zero_or_pos L with h|h
  ·rw [h,Nat.zero_testBit] at hb;cases hb
  ·exact h
 have hmod:L%2^p=0:=by
  apply Nat.eq_of_testBit_eq
  intro j;rw [Nat.testBit_mod_two_pow,Nat.zero_testBit]
  by_cases hj:j<p
  ·rw [h0 j hj];simp
  ·simp [hj]
 have hdiv:(L/2^p)%2=1:=by
  have:=hb;rw [Nat.testBit_eq_decide_div_mod_eq,decide_eq_true_eq] at this;exact this
 obtain ⟨m,hm⟩:∃ m,L/2^p=2*m+1:=⟨L/2^p/2,by omega⟩
 have hLe:L=2^p*(2*m+1):=by
  have:=Nat.div_add_mod L (2^p);rw [hmod,hm] at this;omega
 have hpow:2^p*2^(64-p)=2^64:=by rw [<- Nat.pow_add];congr 1;omega
 have hlt:2*m+1<2^(64-p):=by
  rcases Nat.lt_or_ge (2*m+1) (2^(64-p)) with h|h
  ·exact h
  ·have:=Nat.mul_le_mul_left (2^p) h;rw [hpow,<-hLe] at this;omega
 have hneg:2^64-L=2^p*(2^(64-p)-(2*m+1)):=by rw [Nat.mul_sub,hpow,<-hLe]
 have hodd:(2*m+1)&&&(2^(64-p)-(2*m+1))=1:=by
  apply Nat.eq_of_testBit_eq
  intro j;rw [Nat.testBit_and,Nat.testBit_two_pow_sub_succ (show 2*m<2^(64-p) by omega)]
  rcases j with _|j
  ·have h1:(2*m+1).testBit 0=true:=by simp [Nat.testBit_zero]
   have h2:(2*m).testBit 0=false:=(by simp [Nat.testBit_zero]);rw [h1,h2]
   simp
   omega
  ·have h1:(2*m+1).testBit (j+1)=m.testBit j:=by rw [Nat.testBit_succ];congr 1;omega
   have h2:(2*m).testBit (j+1)=m.testBit j:=(by rw [Nat.testBit_succ];congr 1;omega);rw [h1,h2];have h3:(1:Nat).testBit (j+1)=false:=(by rw [Nat.testBit_succ];simp);rw [h3]
   cases m.testBit j<;>simp
 rw [hneg]
 conv=>lhs;lhs;rw [hLe]
 rw [Nat.mul_comm (2^p),Nat.mul_comm (2^p),<-Nat.shiftLeft_eq,<-Nat.shiftLeft_eq,<-Nat.shiftLeft_and_distrib,hodd,Nat.one_shiftLeft]
set_option maxRecDepth 8000
def RdRc (w:World) (B:Nat) (A:Option Addr) (n:Nat) (rs:List RuleM):Prop:=
 rs.length=n/\(0<n->∃ b off,A=some ⟨b,off,none⟩/\b<B/\∀ i,i<n->∃ A' c',w.cell? ⟨b,off+i*3,none⟩=some (.int .i64 (rat rs i).k)/\w.cell? ⟨b,off+i*3+1,none⟩=some (.slice A' (rat rs i).xs.length c')/\w.cell? ⟨b,off+i*3+2,none⟩=some (.int .i64 (rat rs i).v)/\Rd w B A' (rat rs i).xs.length (rat rs i).xs/\(rat rs i).xs.length<=1099511627776/\(rat rs i).xs.length<=c')
theorem RdRc.below {w w':World} {B:Nat} {A:Option Addr} {n:Nat} {rs:List RuleM} (h:RdRc w B A n rs) (hb:Below B w w'):RdRc w' B A n rs:=
 ⟨h.1,fun hn=>by
   obtain ⟨b,off,e,hlt,hc⟩:=h.2 hn;refine ⟨b,off,e,hlt,fun i hi=>?_⟩;obtain ⟨A',c',h0,h1,h2,h3,h4,h5⟩:=hc i hi
   exact ⟨A',c',(hb.cell (p:=⟨b,off+i*3,none⟩) hlt).trans h0,(hb.cell (p:=⟨b,off+i*3+1,none⟩) hlt).trans h1,(hb.cell (p:=⟨b,off+i*3+2,none⟩) hlt).trans h2,h3.below hb,h4,h5⟩⟩
theorem RdRc.rd {w:World} {B:Nat} {A:Option Addr} {n:Nat} {rs:List RuleM} (h:RdRc w B A n rs):RdRs w B A n rs:=
 ⟨h.1,fun hn=>by
   obtain ⟨b,off,e,hlt,hc⟩:=h.2 hn;refine ⟨b,off,e,hlt,fun i hi=>?_⟩;obtain ⟨A',c',h0,h1,h2,h3,h4,h5⟩:=hc i hi
   exact ⟨A',c',h0,h1,h2,h3,h4⟩⟩
theorem OwR.rdc {w:World} {lo k c:Nat} {A:Option Addr} {rs:List RuleM} (hl:rs.length=k) (h:OwR w lo (.slice A k c) rs k):RdRc w w.heap.size A k rs:=by
 refine ⟨hl,fun hn=>?_⟩;obtain ⟨vs,hown,hin⟩:=h;obtain ⟨hvl,hcase⟩:=id hown
 rcases hcase with ⟨_,h0⟩|⟨g,cap,cur,hv,hlog,hrow,h1,h2,h3,h4⟩
 ·omega
 ·injection hv with hA _ _
  subst hA;have hlt:g<w.heap.size:=(Array.getElem?_eq_some_iff.1 hrow).1
  have hcell:∀ j u,vs[j]? =some u->w.cell? ⟨g,0+j,none⟩=some u:=fun j u hj=>by
   rw [Nat.zero_add,cell_of_row w g j cur _ _ hrow];rw [<- h4,List.getElem?_take] at hj
   split at hj
   ·simpa using hj
   ·cases hj
  refine ⟨g,0,rfl,hlt,fun i hi=>?_⟩;obtain ⟨A',c',e0,e1,e2,e3,e4,e5⟩:=hin i hi;exact ⟨A',c',hcell _ _ e0,by rw [Nat.add_assoc];exact hcell _ _ e1,by rw [Nat.add_assoc];exact hcell _ _ e2,e3.rd,e4,e3.le_cap⟩
def rulesB (s:Int) (rs:List RuleM):Bool:=(List.range rs.length).all fun i=>rvR s (rat rs i)
set_option maxHeartbeats 1000000 in
theorem rulesValid_any (s:Int) (Ag:Option Addr) (ng cg:Nat) (Ar:Option Addr) (nr cr Br:Nat) (rs:List RuleM) (w:World) (hr:RdRc w Br Ar nr rs) (hBr:Br<=w.heap.size) (hmr:nr<=1099511627776):
 Calls Tryz.prog 113 #[.agg #[.int .i64 s,.slice Ag ng cg,.slice Ar nr cr]] w fun e w'=>e=.returned (.bool (rulesB s rs))/\Below w.heap.size w w':=by
 have hlen:=Lib.hid hr.1;have hx0:=pbox_new w s Ag ng cg Ar nr cr 26;have hb0:Below w.heap.size w (w.alloc (.cells #[.int .i64 s,.slice Ag ng cg,.slice Ar nr cr] 26)):=(Below.refl _ _).alloc (Nat.le_refl _) _
 have hs0:w.heap.size+1<=(w.alloc (.cells #[.int .i64 s,.slice Ag ng cg,.slice Ar nr cr] 26)).heap.size:=by simp
 obtain ⟨z0,z1,z2⟩:=id hx0;have HR:=Lib.hid (fun (w':World) (hb:Below w.heap.size w w')=>hr.below (hb.mono hBr))
 go_enter Tryz.func113,Tryz.ntmps113
 go_wp2
 go_loopw [8] (fun i wr=>∃ u:Nat,u<=nr/\i=.int .i64 u/\Hid (allR (rvR s) rs u)/\PBox wr w.heap.size s Ag ng cg Ar nr cr/\Below w.heap.size w wr/\w.heap.size+1<=wr.heap.size) (fun i _=>nr-(intOf i).toNat)
 case atStart=>exact ⟨0,Nat.zero_le _,rfl,Lib.hid (fun j hj=>absurd hj (by omega)),hx0,hb0,hs0⟩
 case round=>
  obtain ⟨u,hu,rfl,hall,hx,hb,hsw⟩:=hrel;obtain ⟨c0,c1,c2⟩:=id hx
  by_cases hlt:u<nr
  ·obtain ⟨b,off,rfl,hbB,hcc⟩:=(HR.out _ hb).2 (by omega);obtain ⟨A',c',r0,r1,r2,r3,r4,r5⟩:=hcc u hlt;obtain ⟨rk,hrk⟩:∃ x,x=(rat rs u).k:=⟨_,rfl⟩;obtain ⟨rx,hrx⟩:∃ x,x=(rat rs u).xs:=⟨_,rfl⟩;obtain ⟨rvv,hrv⟩:∃ x,x=(rat rs u).v:=⟨_,rfl⟩;have hrr:rvR s (rat rs u)=rv rk rx rvv s:=(by simp only [rvR,hrk,hrx,hrv]);rw [<- hrk] at r0;rw [<- hrx] at r1 r3 r4 r5;rw [<- hrv] at r2;have hin:(u:Int)<(nr:Int):=(by omega);have hy:=rbox_new wr rk A' rx.length c' rvv 88;have hb1:Below wr.heap.size wr (wr.alloc (.cells #[.int .i64 rk,.slice A' rx.length c',.int .i64 rvv] 88)):=(Below.refl _ _).alloc (Nat.le_refl _) _
   obtain ⟨y0,y1,y2⟩:=id hy;have hx1:=hx.below (Nat.lt_of_lt_of_le (Nat.lt_succ_self _) hsw) hb1;obtain ⟨d0,d1,d2⟩:=id hx1;have HC:=Lib.hid (implRuleValid A' c' rx.length Br rx rk rvv s (wr.alloc (.cells #[.int .i64 rk,.slice A' rx.length c',.int .i64 rvv] 88)) (r3.below (hb1.mono (Nat.le_trans hBr hb.size))) (Nat.le_trans (Nat.le_trans hBr hb.size) hb1.size) r4 r5);have hbw:=hb.trans (hb1.mono hb.size);have hs1:w.heap.size<(wr.alloc (.cells #[.int .i64 rk,.slice A' rx.length c',.int .i64 rvv] 88)).heap.size:=(by simp;omega);cases hv:rv rk rx rvv s
   ·have HL:=Lib.hid (show rulesB s rs=false from not_all_rat hlen.out hlt (hrr.trans hv));clear hrk hrx hrv hcc hrr
    go_wp2_with (go_at_call 155;refine HC.out.mono ?_;rintro e w3 ⟨rfl,hb3⟩;rw [hv])
    go_ret
    exact ⟨by rw [HL.out];rfl,step hbw hb3⟩
   ·have hall2:=Lib.hid (show allR (rvR s) rs (u+1) from fun i hi=>by
     by_cases e:i=u
     ·subst e;exact hrr.trans hv
     ·exact hall.out i (by omega))
    clear hrk hrx hrv hcc hrr
    go_wp2_with (go_at_call 155;refine HC.out.mono ?_;rintro e w3 ⟨rfl,hb3⟩;rw [hv])
    go_roundw
    case rel=>exact ⟨u+1,hlt,by go_num,hall2,hx1.below hs1 hb3,step hbw hb3,Nat.le_trans hs1 hb3.size⟩
    case measure=>simp [intOf];omega
  ·obtain rfl:u=nr:=by omega
   have HL:=Lib.hid (show rulesB s rs=true from all_rat hlen.out hall.out)
   go_wp2
   go_ret
   exact ⟨by rw [HL.out];rfl,hb⟩
structure PGc (w:World) (s:Int) (Ag:Option Addr) (ng cg Bg:Nat) (gi:List Int) (Ar:Option Addr) (nr cr Br:Nat) (rs:List RuleM):Prop where
 g:Rd w Bg Ag ng gi
 gB:Bg<=w.heap.size
 gm:ng<=1099511627776
 r:RdRc w Br Ar nr rs
 rB:Br<=w.heap.size
 rm:nr<=1099511627776
theorem PGc.below {w w':World} {s:Int} {Ag:Option Addr} {ng cg Bg:Nat} {gi:List Int} {Ar:Option Addr} {nr cr Br:Nat} {rs:List RuleM} (h:PGc w s Ag ng cg Bg gi Ar nr cr Br rs) (hb:Below w.heap.size w w'):PGc w' s Ag ng cg Bg gi Ar nr cr Br rs:=
 ⟨h.g.below (hb.mono h.gB),Nat.le_trans h.gB hb.size,h.gm,h.r.below (hb.mono h.rB),Nat.le_trans h.rB hb.size,h.rm⟩
theorem PGc.rd {w:World} {s:Int} {Ag:Option Addr} {ng cg Bg:Nat} {gi:List Int} {Ar:Option Addr} {nr cr Br:Nat} {rs:List RuleM} (h:PGc w s Ag ng cg Bg gi Ar nr cr Br rs):PGs w s Ag ng cg Bg gi Ar nr cr Br rs:=⟨h.g,h.gB,h.gm,h.r.rd,h.rB,h.rm⟩
set_option maxHeartbeats 1000000 in
theorem valid_any (s:Int) (Ag:Option Addr) (ng cg Bg:Nat) (gi:List Int) (Ar:Option Addr) (nr cr Br:Nat) (rs:List RuleM) (w:World) (hp:PGc w s Ag ng cg Bg gi Ar nr cr Br rs):
 Calls Tryz.prog 60 #[.agg #[.int .i64 s,.slice Ag ng cg,.slice Ar nr cr]] w fun e w'=>e=.returned (.bool (pvB s gi rs))/\Below w.heap.size w w':=by
 have hlen:=Lib.hid hp.r.1;have hx0:=pbox_new w s Ag ng cg Ar nr cr 26;have hb0:Below w.heap.size w (w.alloc (.cells #[.int .i64 s,.slice Ag ng cg,.slice Ar nr cr] 26)):=(Below.refl _ _).alloc (Nat.le_refl _) _
 have hs0:w.heap.size<(w.alloc (.cells #[.int .i64 s,.slice Ag ng cg,.slice Ar nr cr] 26)).heap.size:=by simp
 obtain ⟨z0,z1,z2⟩:=id hx0;have HG:=Lib.hid (fun w' (hb:Below w.heap.size w w')=>implGridValid Ag cg ng Bg gi s w' (hp.below hb).g (hp.below hb).gB hp.gm);have HR:=Lib.hid (fun w' (hb:Below w.heap.size w w')=>rulesValid_any s Ag ng cg Ar nr cr Br rs w' (hp.below hb).r (hp.below hb).rB hp.rm);cases hg:gv gi s
 ·have HL:=Lib.hid (show pvB s gi rs=false by simp [pvB,hg])
  go_enter Tryz.func60,Tryz.ntmps60
  go_wp2_with (go_at_call 112;refine (HG.out _ hb0).mono ?_;rintro e w1 ⟨rfl,hb1⟩;rw [hg])
  go_ret
  exact ⟨by rw [HL.out];rfl,step hb0 hb1⟩
 ·by_cases hn:(nr:Int)<=20
  ·have HL:=Lib.hid (show pvB s gi rs=rulesB s rs by
    unfold pvB rulesB
    rw [hg,decide_eq_true (by rw [hlen.out];omega),Bool.and_true,Bool.and_true])
   go_enter Tryz.func60,Tryz.ntmps60
   go_wp2_with (first|(go_at_call 112;refine (HG.out _ hb0).mono ?_;rintro e w1 ⟨rfl,hb1⟩;rw [hg];have h01:=step hb0 hb1;obtain ⟨c0,c1,c2⟩:=hx0.below hs0 hb1)|(go_at_call 113;refine (HR.out _ h01).mono ?_;rintro e w2 ⟨rfl,hb2⟩))
   go_ret
   exact ⟨by rw [HL.out];rfl,step h01 hb2⟩
  ·have HL:=Lib.hid (show pvB s gi rs=false by
    unfold pvB
    rw [show decide (rs.length<=20)=false from decide_eq_false (by rw [hlen.out];omega),Bool.and_false])
   go_enter Tryz.func60,Tryz.ntmps60
   go_wp2_with (go_at_call 112;refine (HG.out _ hb0).mono ?_;rintro e w1 ⟨rfl,hb1⟩;rw [hg];have h01:=step hb0 hb1;obtain ⟨c0,c1,c2⟩:=hx0.below hs0 hb1)
   go_ret
   exact ⟨by rw [HL.out];rfl,h01⟩
set_option maxRecDepth 8000
structure MidX (lo G:Nat) (X Y:World):Prop where
 size:X.heap.size<=Y.heap.size
 same:∀ k,lo<=k->k<X.heap.size->k≠G->Y.heap[k]? =X.heap[k]?
theorem Mid.x {lo G:Nat} {X Y:World} (h:Mid lo X Y):MidX lo G X Y:=⟨h.size,fun k h1 h2 _=>h.same k h1 h2⟩
theorem midx_grown {lo G:Nat} {X Y:World} (h:X.grownBy Y (some G)):MidX lo G X Y:=⟨h.size,fun k _ h2 h3=>h.block k h2 (fun e=>h3 (Option.some.inj e))⟩
theorem midx_below {lo G:Nat} {X Y:World} (h:Below X.heap.size X Y):MidX lo G X Y:=⟨h.size,fun k _ h2 _=>h.block k h2⟩
theorem MidX.trans {lo G:Nat} {X Y Z:World} (h:MidX lo G X Y) (k:MidX lo G Y Z):MidX lo G X Z:=
 ⟨Nat.le_trans h.size k.size,fun i h1 h2 h3=>(k.same i h1 (Nat.lt_of_lt_of_le h2 h.size) h3).trans (h.same i h1 h2 h3)⟩
theorem MidX.cell {lo G b i:Nat} {X Y:World} {v:Value} (h:MidX lo G X Y) (hc:X.cell? ⟨b,i,none⟩=some v) (h1:lo<=b) (h2:b≠G):Y.cell? ⟨b,i,none⟩=some v:=
 (World.cell?_of_block (a:=⟨b,i,none⟩) (h.same b h1 (cell_lt hc) h2)).trans hc
def RdO (X:World) (L:Nat) (A:Option Addr) (s c:Nat) (vs:List Int):Prop:=
 0<vs.length->∃ b,A=some ⟨b,0,none⟩/\L<=b/\∀ i,i<vs.length->X.cell? ⟨b,i*2,none⟩=some (.int .i64 (nth vs i))/\X.cell? ⟨b,i*2+1,none⟩=some (.int .u64 ((itN s c (nth vs i).toNat:Nat):Int))
theorem RdO.midx {X Y:World} {lo G L s c:Nat} {A:Option Addr} {vs:List Int} (h:RdO X L A s c vs) (hm:MidX lo G X Y) (h1:lo<=L) (h2:G<L):RdO Y L A s c vs:=fun hn=>by
 obtain ⟨b,e,hb,hc⟩:=h hn;exact ⟨b,e,hb,fun i hi=>⟨hm.cell (hc i hi).1 (by omega) (by omega),hm.cell (hc i hi).2 (by omega) (by omega)⟩⟩
def RdW (W0:World) (B0:Nat) (X:World) (L:Nat) (A:Option Addr) (q:List RuleM):Prop:=
 0<q.length->∃ b,A=some ⟨b,0,none⟩/\L<=b/\∀ i,i<q.length->∃ A' c',X.cell? ⟨b,i*3,none⟩=some (.int .i64 (rat q i).k)/\X.cell? ⟨b,i*3+1,none⟩=some (.slice A' (rat q i).xs.length c')/\X.cell? ⟨b,i*3+2,none⟩=some (.int .i64 (rat q i).v)/\Rd W0 B0 A' (rat q i).xs.length (rat q i).xs/\(rat q i).xs.length<=c'
theorem RdW.midx {W0 X Y:World} {B0 lo G L:Nat} {A:Option Addr} {q:List RuleM} (h:RdW W0 B0 X L A q) (hm:MidX lo G X Y) (h1:lo<=L) (h2:G<L):RdW W0 B0 Y L A q:=fun hn=>by
 obtain ⟨b,e,hb,hc⟩:=h hn;refine ⟨b,e,hb,fun i hi=>?_⟩;obtain ⟨A',c',e0,e1,e2,e3,e4⟩:=hc i hi;exact ⟨A',c',hm.cell e0 (by omega) (by omega),hm.cell e1 (by omega) (by omega),hm.cell e2 (by omega) (by omega),e3,e4⟩
def optL (s:Nat) (gi:List Int) (c:Nat):List Int:=bitsTo (candN gi s c) 4
def SR (W0:World) (B0 s:Nat) (gi:List Int) (rs:List RuleM) (OB RB L:Nat) (X:World):Prop:=
 ∀ c,c<s*s->(∃ A cap,X.cell? ⟨OB,c,none⟩=some (.slice A (optL s gi c).length cap)/\RdO X L A s c (optL s gi c))/\∃ A cap,X.cell? ⟨RB,c,none⟩=some (.slice A (rulesAt rs c).length cap)/\RdW W0 B0 X L A (rulesAt rs c)
theorem SR.midx {W0 X Y:World} {B0 s lo G OB RB L:Nat} {gi:List Int} {rs:List RuleM} (h:SR W0 B0 s gi rs OB RB L X) (hm:MidX lo G X Y) (hO:lo<=OB/\OB≠G) (hR:lo<=RB/\RB≠G) (h1:lo<=L) (h2:G<L):SR W0 B0 s gi rs OB RB L Y:=fun c hc=>by
 obtain ⟨⟨A,cap,e1,e2⟩,A',cap',e3,e4⟩:=h c hc;exact ⟨⟨A,cap,hm.cell e1 hO.1 hO.2,e2.midx hm h1 h2⟩,A',cap',hm.cell e3 hR.1 hR.2,e4.midx hm h1 h2⟩
theorem lf_congr {s:Nat} {us us':List Int}:∀ {p:Nat},(∀ i,i<p->nth us i=nth us' i)->lf s us p=lf s us' p:=by
 intro p
 induction p with
 |zero=>intro _;rfl
 |succ p ih=>
  intro h;simp only [lf];rw [ih (fun i hi=>h i (by omega)),h p (by omega)]
set_option maxRecDepth 8000
def loUF (F:Nat->Nat) (M j:Nat):Nat->Nat
 |0=>0
 |u+1=>loUF F M j u|||(if M.testBit u=true then 0 else F (j*5+u))
def loJF (F:Nat->Nat) (Ms:Nat->Nat):Nat->Nat
 |0=>0
 |j+1=>loJF F Ms j|||loUF F (Ms j) j 5
def nmUF (F:Nat->Nat) (lo j:Nat):Nat->Nat
 |0=>0
 |u+1=>nmUF F lo j u|||(if anU (F (j*5+u)) lo≠0 then 2^u else 0)
theorem loUF_lt {F:Nat->Nat} {M j:Nat} (h:∀ i,F i<2^64) (u:Nat):loUF F M j u<2^64:=by
 induction u with
 |zero=>simp [loUF]
 |succ u ih=>
  simp only [loUF];refine Nat.or_lt_two_pow ih ?_
  split
  ·exact Nat.two_pow_pos _
  ·exact h _
theorem loJF_lt {F:Nat->Nat} {Ms:Nat->Nat} (h:∀ i,F i<2^64) (j:Nat):loJF F Ms j<2^64:=by
 induction j with
 |zero=>simp [loJF]
 |succ j ih=>exact Nat.or_lt_two_pow ih (loUF_lt h 5)
theorem loUF_is {L:List (List Int)} {n M j:Nat} (hL:L.length<=64) (hj:j<n) (u:Nat) (hu:u<=5):loUF (tF L n) M j u=loU L M j u:=by
 induction u with
 |zero=>rfl
 |succ u ih=>simp only [loUF,loU];rw [ih (by omega),tF_at hL hj (by omega)]
theorem loJF_is {L:List (List Int)} {n:Nat} {Ms:Nat->Nat} (hL:L.length<=64) (j:Nat) (hj:j<=n):loJF (tF L n) Ms j=loJ L Ms j:=by
 induction j with
 |zero=>rfl
 |succ j ih=>simp only [loJF,loJ];rw [ih (by omega),loUF_is hL (by omega) 5 (Nat.le_refl _)]
theorem nmUF_is {L:List (List Int)} {n lo j:Nat} (hL:L.length<=64) (hj:j<n) (u:Nat) (hu:u<=5):nmUF (tF L n) lo j u=nmU L lo j u:=by
 induction u with
 |zero=>rfl
 |succ u ih=>simp only [nmUF,nmU];rw [ih (by omega),tF_at hL hj (by omega)]
theorem nmUF_lt {F:Nat->Nat} {lo j:Nat} (u:Nat):nmUF F lo j u<2^u:=by
 induction u with
 |zero=>simp [nmUF]
 |succ u ih=>
  simp only [nmUF];refine Nat.or_lt_two_pow (Nat.lt_of_lt_of_le ih (Nat.pow_le_pow_right (by omega) (by omega))) ?_
  split
  ·exact Nat.pow_lt_pow_right (by omega) (by omega)
  ·exact Nat.two_pow_pos _
theorem idx5_0 (a0 a1 a2 a3 a4:Value) (w:World):(Instr.index 139 (.agg #[a0,a1,a2,a3,a4]) (.int .i64 0)).run Tryz.prog w=.ok a0 w:=by kernel_rfl
theorem idx5_1 (a0 a1 a2 a3 a4:Value) (w:World):(Instr.index 139 (.agg #[a0,a1,a2,a3,a4]) (.int .i64 1)).run Tryz.prog w=.ok a1 w:=by kernel_rfl
theorem idx5_2 (a0 a1 a2 a3 a4:Value) (w:World):(Instr.index 139 (.agg #[a0,a1,a2,a3,a4]) (.int .i64 2)).run Tryz.prog w=.ok a2 w:=by kernel_rfl
theorem idx5_3 (a0 a1 a2 a3 a4:Value) (w:World):(Instr.index 139 (.agg #[a0,a1,a2,a3,a4]) (.int .i64 3)).run Tryz.prog w=.ok a3 w:=by kernel_rfl
theorem idx5_4 (a0 a1 a2 a3 a4:Value) (w:World):(Instr.index 139 (.agg #[a0,a1,a2,a3,a4]) (.int .i64 4)).run Tryz.prog w=.ok a4 w:=by kernel_rfl
set_option maxHeartbeats 1000000 in
theorem lost_any (F:Nat->Nat) (A:Option Addr) (c n B:Nat) (xs:List Int) (Am:Option Addr) (cm nm Bm:Nat) (m:List Int) (w:World) (h:Rd w B A n xs) (hB:B<=w.heap.size) (hm:Rd w Bm Am nm m) (hBm:Bm<=w.heap.size) (n4:n<=4) (hF:∀ i,F i<2^64)
 (hin:∀ i,i<n->∃ q:Nat,nth xs i=(q:Int)/\q<nm) (hms:∀ i,i<nm->0<=nth m i/\nth m i<32):
 Calls Tryz.prog 204 #[.agg (tcells F A n c),.slice Am nm cm] w fun e w'=>e=.returned (.int .u64 (loJF F (fun j=>(nth m (nth xs j).toNat).toNat) n:Nat))/\Below w.heap.size w w':=by
 obtain ⟨W,hW⟩:∃ W,w.alloc (.cells (tcells F A n c) 142)=W:=⟨_,rfl⟩
 have ht:TBox W w.heap.size F A n c:=by rw [<- hW];exact heap_alloc_new w _
 have hb0:Below w.heap.size w W:=by rw [<- hW];exact (Below.refl _ _).alloc (Nat.le_refl _) _
 have hs0:W.heap.size=w.heap.size+1:=by rw [<- hW];simp
 have hc0:=ht.cell0
 obtain ⟨Ms,hMs⟩:∃ Ms:Nat->Nat,Ms=fun j=>(nth m (nth xs j).toNat).toNat:=⟨_,rfl⟩
 rw [<- hMs];have HMs:=Lib.hid hMs;have HT:=Lib.hid ht;have HIN:=Lib.hid hin;have HMS:=Lib.hid hms;have HLo:=Lib.hid (fun j=>loJF_lt (Ms:=Ms) hF j);have HLu:=Lib.hid (fun M j u=>loUF_lt (M:=M) (j:=j) hF u);have HF:=Lib.hid hF;have H:=Lib.hid h;have HM:=Lib.hid hm;have HB0:=Lib.hid hb0;clear hMs ht hin hms hF h hm hb0
 go_enter Tryz.func204,Tryz.ntmps204
 go_wp2
 go_loopw [13,5] (fun i l wr=>∃ j:Nat,j<=n/\i=.int .i64 j/\l=.int .u64 (loJF F Ms j:Nat)/\Below W.heap.size W wr) (fun i _ _=>n-(intOf i).toNat)
 case atStart=>exact ⟨0,Nat.zero_le _,rfl,rfl,Below.refl _ _⟩
 case round=>
  obtain ⟨j,hj,rfl,rfl,hb⟩:=hrel
  by_cases hlt:j<n
  ·have hltI:(j:Int)<(n:Int):=by omega
   obtain ⟨b,off,rfl,hbB,hck⟩:=(H.out.below ((HB0.out.trans (hb.mono (by omega))).mono hB)).at_ hlt;obtain ⟨q,hq,hqn⟩:=HIN.out j hlt;rw [hq] at hck;have htr:TBox wr w.heap.size F (some ⟨b,off,none⟩) n c:=HT.out.kept (hb.block _ (by omega));have t0:=htr.cell (i:=j*5) (by omega);have t1:=htr.cell (i:=j*5+1) (by omega);have t2:=htr.cell (i:=j*5+2) (by omega);have t3:=htr.cell (i:=j*5+3) (by omega);have t4:=htr.cell (i:=j*5+4) (by omega);simp only [<- Nat.add_assoc] at t1 t2 t3 t4;have hj4:(j:Int)<4:=(by omega);have hx0:=HMS.out q hqn;have HM2:=Lib.hid (fun w' (hb:Below W.heap.size W w')=>(HM.out.below ((HB0.out.trans (hb.mono (by omega))).mono hBm)).at_ hqn);obtain ⟨M,hM⟩:∃ M:Nat,nth m q=(M:Int):=Int.eq_ofNat_of_zero_le hx0.1;have hM32:M<32:=(by omega);have hMj:Ms j=M:=(by rw [HMs.out];show (nth m (nth xs j).toNat).toNat=M;rw [hq,Int.toNat_natCast,hM];simp);rw [hM] at HM2;have HStep:=Lib.hid (fun (_u:Nat)=>show loJF F Ms (j+1)=loJF F Ms j|||loUF F M j 5 by simp only [loJF];rw [hMj]);have HL0:=Lib.hid (HLo.out j);have HLu:=Lib.hid (fun u=>HLu.out M j u);have HF5:=Lib.hid (fun u=>HF.out (j*5+u))
   have HU:=Lib.hid (fun u=>show loUF F M j (u+1)=loUF F M j u|||(if M.testBit u=true then 0 else F (j*5+u)) from rfl)
   obtain ⟨G,hG⟩:∃ G:Nat->Nat,G=fun u=>F (j*5+u):=⟨_,rfl⟩
   obtain ⟨K,hK⟩:∃ K,K=loJF F Ms j:=⟨_,rfl⟩
   obtain ⟨U,hU⟩:∃ U:Nat->Nat,U=fun u=>loUF F M j u:=⟨_,rfl⟩
   have g0:F (j*5)=G 0:=(by rw [hG];rfl);have g1:F (j*5+1)=G 1:=(by rw [hG]);have g2:F (j*5+2)=G 2:=(by rw [hG]);have g3:F (j*5+3)=G 3:=(by rw [hG]);have g4:F (j*5+4)=G 4:=(by rw [hG]);rw [g0] at t0;rw [g1] at t1;rw [g2] at t2;rw [g3] at t3;rw [g4] at t4;have HU':Hid (∀ u,U (u+1)=U u|||(if M.testBit u=true then 0 else G u)):=Lib.hid (fun u=>by rw [hU,hG];exact HU.out u);have HU0:Hid (U 0=0):=Lib.hid (by rw [hU];rfl);have HU5:Hid (loJF F Ms (j+1)=K|||U 5):=Lib.hid (by rw [HStep.out 0,hK,hU]);have HUl:Hid (∀ u,U u<2^64):=Lib.hid (fun u=>by rw [hU];exact HLu.out u);have HGl:Hid (∀ u,G u<2^64):=Lib.hid (fun u=>by rw [hG];exact HF5.out u);have HKl:Hid (K<2^64):=Lib.hid (by rw [hK];exact HL0.out);rw [<- hK];have hj1:=hlt;clear hq hM hMj HStep HL0 HLu HF5 HU hG hK hU g0 g1 g2 g3 g4 hx0 hlt htr
   go_wp2
   go_loopw [22,5] (fun i l wx=>∃ u:Nat,u<=5/\i=.int .i64 u/\l=.int .u64 (K|||U u:Nat)/\Below W.heap.size W wx) (fun i _ _=>5-(intOf i).toNat)
   case atStart=>exact ⟨0,by omega,rfl,by rw [HU0.out,Nat.or_zero],hb⟩
   case round=>
    clear hb hck t0 t1 t2 t3 t4;obtain ⟨u,hu,rfl,rfl,hb⟩:=hrel
    by_cases hlt:u<5
    ·have hltI:(u:Int)<5:=(by omega);obtain ⟨b2,off2,rfl,hb2,hc2⟩:=HM2.out _ hb
     have hidx:∀ w',(Instr.index 139 (.agg #[Value.int IntKind.u64 (G 0:Nat),Value.int IntKind.u64 (G 1:Nat),Value.int IntKind.u64 (G 2:Nat),Value.int IntKind.u64 (G 3:Nat),Value.int IntKind.u64 (G 4:Nat)]) (.int .i64 (u:Int))).run Tryz.prog w'=.ok (Value.int IntKind.u64 (G u:Nat)) w':=fun w'=>by
      have:u=0\/u=1\/u=2\/u=3\/u=4:=(by omega)
      rcases this with rfl|rfl|rfl|rfl|rfl
      ·exact idx5_0 _ _ _ _ _ _
      ·exact idx5_1 _ _ _ _ _ _
      ·exact idx5_2 _ _ _ _ _ _
      ·exact idx5_3 _ _ _ _ _ _
      ·exact idx5_4 _ _ _ _ _ _
     have hA0:=and_pow0 M u hM32 (by omega);have HGu:=Lib.hid (HGl.out u);have HO:=Lib.hid (bits_or_u64_nat (K|||U u) (G u) (by have:=Nat.or_lt_two_pow HKl.out (HUl.out u);omega) (by have:=HGl.out u;omega))
     go_wp2
     go_quiet (fail)
     cases hbit:M.testBit u
     ·rw [hbit] at hA0;have HN:=Lib.hid (show K|||U u|||G u=K|||U (u+1) by rw [HU'.out u,hbit,Nat.or_assoc];simp)
      go_wp2
      go_roundw
      case rel=>exact ⟨u+1,by omega,by go_num,by rw [<- HN.out,<-HO.out],below_drewN hb _⟩
      case measure=>simp [intOf];omega
     ·rw [hbit] at hA0;have HN:=Lib.hid (show K|||U u=K|||U (u+1) by rw [HU'.out u,hbit];simp)
      go_wp2
      go_roundw
      case rel=>exact ⟨u+1,by omega,by go_num,by rw [<- HN.out],below_drewN hb _⟩
      case measure=>simp [intOf];omega
    ·obtain rfl:u=5:=by omega
     go_wp2
     go_roundw
     case rel=>exact ⟨j+1,hj1,by go_num,by rw [HU5.out],hb⟩
     case measure=>simp [intOf];omega
  ·obtain rfl:j=n:=by omega
   go_wp2
   go_ret
   exact ⟨rfl,HB0.out.trans (hb.mono (by omega))⟩
set_option maxHeartbeats 1000000 in
theorem narrow_any (F:Nat->Nat) (A:Option Addr) (c n B:Nat) (xs f:List Int) (g cm nm lo:Nat) (o:List Int) (w:World) (h:Rd w B A n xs) (hBg:B<=g) (ho:Ow w lo (some ⟨g,0,none⟩) nm cm o) (n4:n<=4) (hF:∀ i,F i<2^64)
 (hin:∀ i,i<n->∃ q:Nat,nth xs i=(q:Int)/\q<nm) (hms:∀ i,i<nm->0<=nth o i/\nth o i<32)
 (hf:∀ j,j<n->nth f j=((nmUF F (loJF F (fun j=>(nth o (nth xs j).toNat).toNat) n) j 5:Nat):Int)):
 Calls Tryz.prog 199 #[.agg (tcells F A n c),.slice (some ⟨g,0,none⟩) nm cm] w fun e w'=>e=.returned (.tuple #[])/\Ow w' lo (some ⟨g,0,none⟩) nm cm (nrIn xs f o n)/\w.grownBy w' (some g):=by
 have hgw:=ho.own_hi g rfl;obtain ⟨W,hW⟩:∃ W,w.alloc (.cells (tcells F A n c) 142)=W:=⟨_,rfl⟩
 have ht:TBox W w.heap.size F A n c:=by rw [<- hW];exact heap_alloc_new w _
 have hb0:Below w.heap.size w W:=by rw [<- hW];exact (Below.refl _ _).alloc (Nat.le_refl _) _
 have hs0:W.heap.size=w.heap.size+1:=by rw [<- hW];simp
 have hB:B<=w.heap.size:=by omega
 have HLs:=Lib.hid (lost_any F A c n B xs (some ⟨g,0,none⟩) cm nm W.heap.size o W (h.below (hb0.mono hB)) (by omega) (ho.below hb0).rd (Nat.le_refl _) n4 hF hin hms);obtain ⟨L,hL⟩:∃ L,L=loJF F (fun j=>(nth o (nth xs j).toNat).toNat) n:=⟨_,rfl⟩;rw [<- hL] at HLs hf;have HL64:=Lib.hid (show L<2^64 by rw [hL];exact loJF_lt hF n);have hlen:=ho.len;have Hi:=Lib.hid (show (Tryz.prog.info? 142).map (·.size)=some 21 from by kernel_rfl);have HT:=Lib.hid ht;have HIN:=Lib.hid hin;have HFf:=Lib.hid hf;have HF:=Lib.hid hF;have H:=Lib.hid h;have HO:=Lib.hid ho
 have HB0:=Lib.hid hb0;have hr0:W.heap[w.heap.size]? =some (.cells (tcells F A n c) 142):=ht;clear hL ht hin hms hf hF h ho hb0
 go_enter Tryz.func199,Tryz.ntmps199
 go_wp2_with (first
  |(refine wpList_load_row rfl 142 _ rfl w.heap.size rfl 142 (tcells F A n c) (0,0) _ hr0 Tryz.underlying142 rfl Hi.out ?_)
  |(go_at_call 204;refine HLs.out.mono ?_;rintro e w1 ⟨rfl,hb1⟩;have ht1:TBox w1 w.heap.size F A n c:=HT.out.kept (hb1.block _ (by omega));have hc0:=ht1.cell0))
 have HB1:=Lib.hid (HB0.out.trans (hb1.mono (by omega)));have HT1:=Lib.hid ht1;have hs1:=hb1.size;clear ht1 hc0 hr0 hb1
 go_loopw [15] (fun i wr=>∃ j:Nat,j<=n/\i=.int .i64 j/\Ow wr lo (some ⟨g,0,none⟩) nm cm (nrIn xs f o j)/\w1.grownBy wr (some g)) (fun i _=>n-(intOf i).toNat)
 case atStart=>exact ⟨0,Nat.zero_le _,rfl,HO.out.below HB1.out,World.grownBy.refl _ _⟩
 case round=>
  obtain ⟨j,hj,rfl,ho,hg⟩:=hrel;have htr:TBox wr w.heap.size F A n c:=HT1.out.kept (hg.block _ (by omega) (fun e=>by have:=Option.some.inj e;omega))
  by_cases hlt:j<n
  ·have hltI:(j:Int)<(n:Int):=by omega
   obtain ⟨b,off,rfl,hbB,hck0⟩:=(H.out.below (HB1.out.mono hB)).at_ hlt;have hck:=(hg.cell_far ⟨b,off+j,none⟩ (by show b<_;omega) (fun e=>by have e:b=g:=Option.some.inj e;omega)).trans hck0;obtain ⟨q,hq,hqn⟩:=HIN.out j hlt;rw [hq] at hck;have t0:=htr.cell (i:=j*5) (by omega);have t1:=htr.cell (i:=j*5+1) (by omega);have t2:=htr.cell (i:=j*5+2) (by omega);have t3:=htr.cell (i:=j*5+3) (by omega);have t4:=htr.cell (i:=j*5+4) (by omega);simp only [<- Nat.add_assoc] at t1 t2 t3 t4;have hj4:(j:Int)<4:=(by omega);have hqI:(q:Int)<(nm:Int):=(by omega);obtain ⟨hcq,hfq⟩:=ho.cell hqn
   obtain ⟨G,hG⟩:∃ G:Nat->Nat,G=fun u=>F (j*5+u):=⟨_,rfl⟩
   obtain ⟨U,hU⟩:∃ U:Nat->Nat,U=fun u=>nmUF F L j u:=⟨_,rfl⟩
   have g0:F (j*5)=G 0:=(by rw [hG];rfl);have g1:F (j*5+1)=G 1:=(by rw [hG]);have g2:F (j*5+2)=G 2:=(by rw [hG]);have g3:F (j*5+3)=G 3:=(by rw [hG]);have g4:F (j*5+4)=G 4:=(by rw [hG]);rw [g0] at t0;rw [g1] at t1;rw [g2] at t2;rw [g3] at t3;rw [g4] at t4;have HU:Hid (∀ u,U (u+1)=U u|||(if anU (G u) L≠0 then 2^u else 0)):=Lib.hid (fun u=>by rw [hU,hG];rfl);have HUl:Hid (∀ u,U u<2^u):=Lib.hid (fun u=>by rw [hU];exact nmUF_lt u);have HGl:Hid (∀ u,G u<2^64):=Lib.hid (fun u=>by rw [hG];exact HF.out _);have HEnd:Hid (nrIn xs f o (j+1)=(nrIn xs f o j).set q ((U 5:Nat):Int)):=Lib.hid (by simp only [nrIn];rw [hq,Int.toNat_natCast,HFf.out j hlt,hU]);obtain ⟨oj,hoj⟩:∃ oj,oj=nrIn xs f o j:=⟨_,rfl⟩;rw [<- hoj] at ho hcq HEnd;have hol:q<oj.length:=(by rw [ho.len];exact hqn);have hput:=ho.putN q 0;have HS0:=Lib.hid (show Ow (wr.setCell ⟨g,q,none⟩ (.int .i64 0)) lo (some ⟨g,0,none⟩) nm cm (oj.set q ((U 0:Nat):Int)) by rw [show ((U 0:Nat):Int)=0 by rw [hU];rfl];exact hput);have HG1:=Lib.hid (hg.trans (grown_set (w:=wr) (G:=g) (i:=q) (v:=.int .i64 0)))
   have hts:∀ i,i<20->(wr.setCell ⟨g,q,none⟩ (.int .i64 0)).cell? ⟨w.heap.size,1+i,none⟩=wr.cell? ⟨w.heap.size,1+i,none⟩:=fun i _=>World.cell?_of_block (a:=⟨w.heap.size,1+i,none⟩) (heap_setCell_other wr ⟨g,q,none⟩ w.heap.size _ (fun e=>by dsimp only at e;omega))
   have s0:=(hts (j*5) (by omega)).trans t0;have s1:=(hts (j*5+1) (by omega)).trans t1;have s2:=(hts (j*5+2) (by omega)).trans t2;have s3:=(hts (j*5+3) (by omega)).trans t3;have s4:=(hts (j*5+4) (by omega)).trans t4;simp only [<- Nat.add_assoc] at s0 s1 s2 s3 s4;have htc:=htr.cell0;have Hlt:=Lib.hid hlt;clear hq hG hU g0 g1 g2 g3 g4 hoj hput hts t0 t1 t2 t3 t4 hlt htr
   go_wp2
   go_loopw [27] (fun i wx=>∃ u:Nat,u<=5/\i=.int .i64 u/\Ow wx lo (some ⟨g,0,none⟩) nm cm (oj.set q ((U u:Nat):Int))/\w1.grownBy wx (some g)) (fun i _=>5-(intOf i).toNat)
   case atStart=>exact ⟨0,by omega,rfl,HS0.out,HG1.out⟩
   case round=>
    clear hck s0 s1 s2 s3 s4 htc hcq hfq hg;obtain ⟨u,hu,rfl,ho,hg⟩:=hrel
    by_cases hlt:u<5
    ·have hltI:(u:Int)<5:=(by omega)
     have hidx:∀ w',(Instr.index 139 (.agg #[Value.int IntKind.u64 (G 0:Nat),Value.int IntKind.u64 (G 1:Nat),Value.int IntKind.u64 (G 2:Nat),Value.int IntKind.u64 (G 3:Nat),Value.int IntKind.u64 (G 4:Nat)]) (.int .i64 (u:Int))).run Tryz.prog w'=.ok (Value.int IntKind.u64 (G u:Nat)) w':=fun w'=>by
      have:u=0\/u=1\/u=2\/u=3\/u=4:=(by omega)
      rcases this with rfl|rfl|rfl|rfl|rfl
      ·exact idx5_0 _ _ _ _ _ _
      ·exact idx5_1 _ _ _ _ _ _
      ·exact idx5_2 _ _ _ _ _ _
      ·exact idx5_3 _ _ _ _ _ _
      ·exact idx5_4 _ _ _ _ _ _
     have hAn:=andNot_u64 (a:=G u) (b:=L) (by have:=HGl.out u;omega) (by have:=HL64.out;omega);have HUu:=HU.out u;obtain ⟨Z,hZ⟩:∃ Z,Z=anU (G u) L:=⟨_,rfl⟩;rw [<- hZ] at hAn HUu
     by_cases hz:Z=0
     ·rw [if_neg (by simpa using hz),Nat.or_zero] at HUu;have hZ0:((Z:Int) != 0)=false:=(by simp;exact hz);have HN:=Lib.hid HUu;clear hZ hz HUu
      go_wp2
      go_roundw
      case rel=>exact ⟨u+1,by omega,by go_num,by rw [HN.out];exact ho,hg⟩
      case measure=>simp [intOf];omega
     ·rw [if_pos hz] at HUu;have hZ0:((Z:Int) != 0)=true:=(by simp;exact hz);obtain ⟨hc,hfr⟩:=ho.cell hqn;rw [nth_set hol,if_pos rfl] at hc;have hU32:U u<32:=Nat.lt_of_lt_of_le (HUl.out u) (Nat.pow_le_pow_right (n:=2) (j:=5) (by omega) (by omega));have hor:=or_pow (U u) u hU32 (by omega);rw [<- HUu] at hor;obtain ⟨U1,hU1⟩:∃ U1,U1=U (u+1):=⟨_,rfl⟩;rw [<- hU1] at hor;obtain ⟨U0,hU0⟩:∃ U0,U0=U u:=⟨_,rfl⟩;rw [<- hU0] at hor hc;have hp:=ho.putN q ((U1:Nat):Int);rw [List.set_set] at hp;have HE1:Hid (Ow (wr.setCell ⟨g,q,none⟩ (.int .i64 (bits .or .i64 (U0:Int) (wrap64 (2^u))))).drew lo (some ⟨g,0,none⟩) nm cm (oj.set q ((U (u+1):Nat):Int))):=Lib.hid (by rw [hor,<-hU1];exact World.ownsRow.drew hp)
      have HE2:Hid (w1.grownBy (wr.setCell ⟨g,q,none⟩ (.int .i64 (bits .or .i64 (U0:Int) (wrap64 (2^u))))).drew (some g)):=Lib.hid (grown_drew (hg.trans grown_set));have hu64:(u:Int)<64:=(by omega);clear hZ hz HUu hU1 hU0 hp ho hg hor hU32
      go_wp2
      go_region
      all_goals
       go_wp2
       first
        |(go_roundw
          case rel=>exact ⟨u+1,by omega,by go_num,HE1.out,HE2.out⟩
          case measure=>simp [intOf];omega)
        |exact ⟨⟨u+1,by omega,by go_num,HE1.out,HE2.out⟩,by simp [intOf];omega⟩
    ·obtain rfl:u=5:=by omega
     go_wp2
     go_roundw
     case rel=>exact ⟨j+1,Hlt.out,by go_num,by rw [HEnd.out];exact ho,hg⟩
     case measure=>have:=Hlt.out;simp [intOf];omega
  ·obtain rfl:j=n:=by omega
   go_wp2
   go_end0
   have hg0:w.grownBy wr (some g):=(grown_of_below HB1.out).trans hg;exact ⟨rfl,ho,hg0⟩
set_option maxRecDepth 8000
theorem own_kept8 {w w':World} {lo sz k:Nat} {t:TypeId} {v:Value} {vs:List Value} {row:Option Nat} (h:w.ownsRow lo t sz v k vs) (hg:w.grownBy w' row) (hne:∀ g,v.ownBlock=some g->row≠some g):w'.ownsRow lo t sz v k vs:=by
 refine World.ownsRow.kept h hg ?_
 cases e:v.ownBlock with
 |none=>exact .inl rfl
 |some g=>exact .inr (fun he=>hne g e he.symm)
theorem own_below8 {w w':World} {lo sz k:Nat} {t:TypeId} {v:Value} {vs:List Value} (h:w.ownsRow lo t sz v k vs) (hb:Below w.heap.size w w'):w'.ownsRow lo t sz v k vs:=
 own_kept8 (row:=none) h ⟨hb.os,hb.tape,hb.output,hb.size,fun k hk _=>hb.block k hk⟩ (fun g _ e=>by cases e)
theorem rdrc_fun8 {W:World} {B n:Nat} {A:Option Addr} {rs:List RuleM} (h:RdRc W B A n rs):∃ (b off:Nat) (RA:Nat->Option Addr) (RC:Nat->Nat),(0<n->A=some ⟨b,off,none⟩/\b<B)/\∀ i,i<n->W.cell? ⟨b,off+i*3,none⟩=some (.int .i64 (rat rs i).k)/\W.cell? ⟨b,off+i*3+1,none⟩=some (.slice (RA i) (rat rs i).xs.length (RC i))/\W.cell? ⟨b,off+i*3+2,none⟩=some (.int .i64 (rat rs i).v)/\Rd W B (RA i) (rat rs i).xs.length (rat rs i).xs/\(rat rs i).xs.length<=RC i:=by
 by_cases h0:0<n
 ·obtain ⟨b,off,e,hlt,hc⟩:=h.2 h0
  have key:∀ i,∃ q:Option Addr×Nat,i<n->W.cell? ⟨b,off+i*3,none⟩=some (.int .i64 (rat rs i).k)/\W.cell? ⟨b,off+i*3+1,none⟩=some (.slice q.1 (rat rs i).xs.length q.2)/\W.cell? ⟨b,off+i*3+2,none⟩=some (.int .i64 (rat rs i).v)/\Rd W B q.1 (rat rs i).xs.length (rat rs i).xs/\(rat rs i).xs.length<=q.2:=fun i=>by
   by_cases hi:i<n
   ·obtain ⟨A',c',a0,a1,a2,a3,_,a5⟩:=hc i hi;exact ⟨(A',c'),fun _=>⟨a0,a1,a2,a3,a5⟩⟩
   ·exact ⟨(none,0),fun h=>absurd h hi⟩
  obtain ⟨f,hf⟩:=Classical.axiomOfChoice key;exact ⟨b,off,fun i=>(f i).1,fun i=>(f i).2,fun _=>⟨e,hlt⟩,hf⟩
 ·exact ⟨0,0,fun _=>none,fun _=>0,fun h=>absurd h h0,fun i hi=>absurd hi (by omega)⟩
end Go.Proofs.YtkeoflnmbcdmfaaGreatDoor
