import Derived.Test.YtkeoflnmbcdmfaaGreatDoorMSol
import Derived.Test.YtkeoflnmbcdmfaaGreatDoorC3C
import Derived.Test.YtkeoflnmbcdmfaaGreatDoorC3G
import Derived.Test.YtkeoflnmbcdmfaaGreatDoorSqNum
import Derived.Test.YtkeoflnmbcdmfaaGreatDoorC3
import Derived.Lib.BitFns
import Derived.Test.YtkeoflnmbcdmfaaGreatDoorDraw
import Derived.Test.YtkeoflnmbcdmfaaGreatDoorC1
import Derived.Test.YtkeoflnmbcdmfaaGreatDoorOwn
namespace Go.Proofs.YtkeoflnmbcdmfaaGreatDoor
open Go.ChangeShapes Go.WideShapes Go.ChangeAt Go.RowKit
theorem okTo3_iff {xs:List Int} {s:Int} {k:Nat} {v:Int} (m:Nat):okTo3 xs s k v m=true↔∀ j,j<m->ok3 xs s k v j=true:=by
 induction m with
 |zero=>simp [okTo3]
 |succ m ih=>
  rw [okTo3,Bool.and_eq_true,ih]
  constructor
  ·rintro ⟨h1,h2⟩ j hj
   by_cases e:j=m
   ·subst e;exact h2
   ·exact h1 j (by omega)
  ·intro h;exact ⟨fun j hj=>h j (by omega),h m (by omega)⟩
def seen3 (s k i:Nat):Bool:=(List.range s).any fun j=>((rIx (s:Nat) k j).toNat==i)||((cIx (s:Nat) k j).toNat==i)
theorem seen_adj:∀ s∈[2,3,4],∀ k,k<s*s->∀ i,i<s*s->adj s i k=true->seen3 s k i=true:=by decide +kernel
def adjSeen (s k j:Nat):Bool:=((rIx (s:Nat) k j==(k:Int))||(adj s (rIx (s:Nat) k j).toNat k&&Nat.blt (rIx (s:Nat) k j).toNat (s*s)))&&((cIx (s:Nat) k j==(k:Int))||(adj s (cIx (s:Nat) k j).toNat k&&Nat.blt (cIx (s:Nat) k j).toNat (s*s)))
theorem adj_seen:∀ s∈[2,3,4],∀ k,k<s*s->∀ j,j<s->adjSeen s k j=true:=by decide +kernel
theorem ix_nn:∀ s∈[2,3,4],∀ k,k<s*s->∀ j,j<s->((rIx (s:Nat) k j).toNat:Int)=rIx (s:Nat) k j/\((cIx (s:Nat) k j).toNat:Int)=cIx (s:Nat) k j:=by decide +kernel
theorem adj_ne (s i j:Nat):(adj s i j=true->i≠j)/\True:=⟨fun h=>by simp only [adj,Bool.and_eq_true,bne_iff_ne] at h;exact h.1,trivial⟩
theorem adj_sym:∀ s∈[2,3,4],∀ i,i<s*s->∀ j,j<s*s->adj s i j=adj s j i:=by decide +kernel
theorem ok3_adj {xs:List Int} {s k:Nat} (hs:s∈[2,3,4]) (hk:k<s*s) (v:Int):okTo3 xs s k v s=true↔∀ i,i<s*s->adj s i k=true->nth xs i≠v:=by
 rw [okTo3_iff]
 constructor
 ·intro h i hi ha he;have:=seen_adj s hs k hk i hi ha;simp only [seen3,List.any_eq_true,List.mem_range,Bool.or_eq_true,beq_iff_eq] at this;obtain ⟨j,hj,hor⟩:=this;have ho:=h j hj;obtain ⟨n1,n2⟩:=ix_nn s hs k hk j hj;have hne:=((adj_ne s i k).1 ha);simp only [ok3,Bool.and_eq_true,Bool.or_eq_true,beq_iff_eq,bne_iff_ne] at ho
  rcases hor with e|e
  ·rcases ho.1 with h1|h1
   ·omega
   ·rw [e] at h1;exact h1 he
  ·rcases ho.2 with h1|h1
   ·omega
   ·rw [e] at h1;exact h1 he
 ·intro h j hj;have:=adj_seen s hs k hk j hj;simp only [adjSeen,Bool.and_eq_true,Bool.or_eq_true,beq_iff_eq,Nat.blt_eq] at this;simp only [ok3,Bool.and_eq_true,Bool.or_eq_true,beq_iff_eq,bne_iff_ne];refine ⟨?_,?_⟩
  ·rcases this.1 with e|⟨e1,e2⟩
   ·exact .inl e
   ·exact .inr (h _ e2 e1)
  ·rcases this.2 with e|⟨e1,e2⟩
   ·exact .inl e
   ·exact .inr (h _ e2 e1)
theorem candTo_test (xs:List Int) (s:Int) (k u:Nat):∀ v,(candTo xs s k v).testBit u=true↔1<=u/\u<=v/\okTo3 xs s k (u:Int) s.toNat=true:=by
 intro v
 induction v with
 |zero=>simp [candTo];omega
 |succ v ih=>
  have hc:((v:Int)+1)=((v+1:Nat):Int):=by omega
  simp only [candTo]
  split
  ·next h=>
   rw [hc] at h;rw [Nat.testBit_or,Bool.or_eq_true,ih,Nat.testBit_two_pow,decide_eq_true_eq]
   constructor
   ·rintro (⟨h1,h2,h3⟩|rfl)
    ·exact ⟨h1,by omega,h3⟩
    ·exact ⟨by omega,Nat.le_refl _,h⟩
   ·rintro ⟨h1,h2,h3⟩
    by_cases e:u=v+1
    ·exact .inr e.symm
    ·exact .inl ⟨h1,by omega,h3⟩
  ·next h=>
   rw [hc] at h;rw [ih]
   constructor
   ·rintro ⟨h1,h2,h3⟩;exact ⟨h1,by omega,h3⟩
   ·rintro ⟨h1,h2,h3⟩;refine ⟨h1,?_,h3⟩
    by_cases e:u=v+1
    ·subst e;exact absurd h3 h
    ·omega
theorem clash_cand {xs:List Int} {s n k v:Nat} (hs:s∈[2,3,4]) (hn:n=s*s) (hl:xs.length=n) (hc:clash xs s=false) (hk:k<n) (v1:1<=v) (v2:v<=s):clash (xs.set k (v:Int)) s= !((candTo xs s k s).testBit v):=by
 have hT:(candTo xs s k s).testBit v=true↔okTo3 xs s k (v:Int) s=true:=by
  rw [candTo_test,Int.toNat_natCast];exact ⟨fun h=>h.2.2,fun h=>⟨v1,v2,h⟩⟩
 rw [ok3_adj hs (by omega)] at hT
 have key:clash (xs.set k (v:Int)) s=true↔¬ ∀ i,i<s*s->adj s i k=true->nth xs i≠(v:Int):=by
  rw [clash_iff hs]
  constructor
  ·rintro ⟨i,j,hi,hj,ha,he,hp⟩ hall;rw [nth_set (by omega),nth_set (by omega)] at he;rw [nth_set (by omega)] at hp;have hij:=(adj_ne s i j).1 ha
   by_cases ek:k=j
   ·subst ek;rw [if_pos rfl,if_neg (fun h=>hij h.symm)] at he;exact hall i hi ha he
   ·rw [if_neg ek] at he hp
    by_cases ei:k=i
    ·subst ei;rw [if_pos rfl] at he;exact hall j hj ((adj_sym s hs k hi j hj).symm.trans ha) he.symm
    ·rw [if_neg ei] at he;have:=(clash_iff (xs:=xs) hs).2 ⟨i,j,hi,hj,ha,he,hp⟩;rw [hc] at this;cases this
  ·intro h;simp only [Classical.not_forall,Classical.not_not] at h;obtain ⟨i,hi,ha,he⟩:=h;have hik:=(adj_ne s i k).1 ha;refine ⟨i,k,hi,by omega,ha,?_,?_⟩
   ·rw [nth_set (by omega),nth_set (by omega),if_pos rfl,if_neg (fun h=>hik h.symm)];exact he
   ·rw [nth_set (by omega),if_pos rfl];omega
 cases hb:(candTo xs s k s).testBit v
 ·rw [hb] at hT;have:clash (xs.set k (v:Int)) s=true:=key.2 (fun h=>by have:=hT.2 h;cases this);rw [this];rfl
 ·rw [hb] at hT;cases hcc:clash (xs.set k (v:Int)) s
  ·rfl
  ·exact absurd (hT.1 rfl) (key.1 hcc)
theorem candN_lt {xs:List Int} {s n:Nat} (hs4:s<=4) (hok:okAll xs s n) {k:Nat} (hk:k<n):candN xs s k<32:=by
 unfold candN
 split
 ·have:=hok k hk;exact Nat.pow_lt_pow_right (n:=5) (by omega) (by omega)
 ·exact candTo_lt _ _ _ _ (by omega)
theorem candN_test {xs:List Int} {s n:Nat} (hok:okAll xs s n) {k:Nat} (hk:k<n) {u:Nat} (h:(candN xs s k).testBit u=true):1<=u/\u<=s:=by
 have hv:=hok k hk;unfold candN at h
 split at h
 ·rw [Nat.testBit_two_pow,decide_eq_true_eq] at h;omega
 ·rw [candTo_test,Int.toNat_natCast] at h;exact ⟨h.1,h.2.1⟩
theorem even_bits:∀ M,M<32->∀ s∈[2,3,4],((∀ u,u<5->M.testBit u=true->1<=u/\u<=s)->M<=2^(s+1)-2/\M%2=0):=by decide +kernel
theorem cand_mask {xs:List Int} {s n:Nat} (hs:s∈[2,3,4]) (hok:okAll xs s n) {k:Nat} (hk:k<n):candN xs s k<=2^(s+1)-2/\candN xs s k%2=0:=
 even_bits _ (candN_lt (by simp at hs;omega) hok hk) s hs (fun _ _ h=>candN_test hok hk h)
theorem cand_valid {xs:List Int} {size:Int} (hg:gv xs size=true):mvd (candL xs size) size=true:=by
 obtain ⟨s,rfl,hs,hl⟩:=size_nat hg
 have hok:okAll xs s (s*s):=fun k hk=>gv_nth hg (by rw [hl];exact hk)
 have hL:candL xs s=mapTo (candG xs s) (s*s):=by simp [candL,hg,hl]
 obtain ⟨h2,h4⟩:=gv_size hg;rw [hL]
 have h1:inr (s:Int) 2 4=true:=by simp [inr,h2,h4]
 have h3:(mapTo (candG xs s) (s*s)).all (mkOk (2^((s:Int).toNat+1)-2))=true:=by
  refine allTo_all (n:=s*s) (fun j hj=>?_) (mapTo_length _ _);rw [mapTo_nth hj];obtain ⟨m1,m2⟩:=cand_mask hs hok hj
  have hp:((2:Int)^(s+1)-2)=((2^(s+1)-2:Nat):Int):=by
   simp at hs
   rcases hs with rfl|rfl|rfl<;>rfl
  simp only [mkOk,candG,Int.toNat_natCast,Bool.and_eq_true,beq_iff_eq];rw [hp,Int.tmod_eq_emod_of_nonneg (Int.natCast_nonneg _)];refine ⟨by simp only [inr,decide_eq_true_eq];omega,by omega⟩
 simp only [mvd,h1,h3,mapTo_length,Bool.true_and,Bool.and_true,beq_iff_eq]
 simp
theorem mvd_b64 {xs:List Int} {size:Int} (h:mvd xs size=true):B64 xs:=b64_of rfl fun k hk=>by
 have:=(mvd_at h).2.2.2 k hk;omega
theorem candL_b64 (xs:List Int) (size:Int):B64 (candL xs size):=by
 cases hg:gv xs size
 ·have:candL xs size=[]:=by simp [candL,hg]
  rw [this]
  exact fun k=>by simp [nth]
 ·exact mvd_b64 (cand_valid hg)
theorem back_turn:∀ s∈[2,3,4],∀ k,k<s*s->backIx s (turnIx s k)=k:=by decide +kernel
theorem cand_turn {xs:List Int} {size:Int} {n k:Nat} (hg:gv xs size=true) (hl:xs.length=n) (hk:k<n):nth (candL (turnL xs size) size) k=candG xs size (turnIx size k):=by
 have hgt:gv (turnL xs size) size=true:=(turn_all hg hl).valid;have htl:(turnL xs size).length=n:=(turn_all hg hl).len;obtain ⟨s,rfl,hs,hls⟩:=size_nat hg
 obtain rfl:n=s*s:=by omega
 have hL:candL (turnL xs s) s=mapTo (candG (turnL xs s) s) (s*s):=by simp [candL,hgt,htl]
 rw [hL,mapTo_nth hk];have hpm:=turnL_pm hg hl
 have hat:∀ i,i<s*s->nth (turnL xs s) i=nth xs (turnIx s i):=fun i hi=>by rw [hpm,pm_nth hi]
 have htk:=turn_lt s hs k hk;simp only [candG,candN];rw [hat k hk]
 split
 ·rfl
 ·congr 1
  apply Nat.eq_of_testBit_eq
  intro u;rw [Bool.eq_iff_iff,candTo_test,candTo_test,Int.toNat_natCast,ok3_adj hs hk,ok3_adj hs htk]
  constructor
  ·rintro ⟨h1,h2,h3⟩;refine ⟨h1,h2,fun i hi ha=>?_⟩;have hb:=turn_back s hs i hi;have hbk:=turn_back s hs (turnIx s k) htk
   have:=h3 (backIx s i) hb.1 (by
    have h9:=(turn_adj s hs i hi (turnIx s k) htk ha).2
    rwa [back_turn s hs k hk] at h9)
   rw [hat _ hb.1,hb.2] at this;exact this
  ·rintro ⟨h1,h2,h3⟩;refine ⟨h1,h2,fun i hi ha=>?_⟩;rw [hat i hi];exact h3 _ (turn_lt s hs i hi) (turn_adj s hs i hi k hk ha).1
end Go.Proofs.YtkeoflnmbcdmfaaGreatDoor
set_option maxRecDepth 8000
namespace Go.Proofs.YtkeoflnmbcdmfaaGreatDoor
open Go.ChangeShapes Go.WideShapes Go.ChangeAt Go.RowKit
def seqN (v:Nat):Nat->List Int
 |0=>[]
 |r+1=>(v:Int)::seqN (v+1) r
def rep (s:Nat):List Int:=seqN 1 s
theorem seqN_mem {x:Int}:∀ {r v:Nat},x∈seqN v r↔∃ u:Nat,x=u/\v<=u/\u<v+r:=by
 intro r
 induction r with
 |zero=>intro v;simp [seqN]
 |succ r ih=>
  intro v;simp only [seqN,List.mem_cons,ih]
  constructor
  ·rintro (rfl|⟨u,rfl,h1,h2⟩)
   ·exact ⟨v,rfl,by omega,by omega⟩
   ·exact ⟨u,rfl,by omega,by omega⟩
  ·rintro ⟨u,rfl,h1,h2⟩
   by_cases e:u=v
   ·subst e;exact .inl rfl
   ·exact .inr ⟨u,rfl,by omega,by omega⟩
theorem rep_mem {x:Int} {s:Nat}:x∈rep s↔∃ u:Nat,x=u/\1<=u/\u<=s:=by
 unfold rep;rw [seqN_mem]
 constructor
 ·rintro ⟨u,e,h1,h2⟩;exact ⟨u,e,h1,by omega⟩
 ·rintro ⟨u,e,h1,h2⟩;exact ⟨u,e,h1,by omega⟩
theorem seqN_snoc (v r:Nat):seqN v (r+1)=seqN v r++[((v+r:Nat):Int)]:=by
 induction r generalizing v with
 |zero=>rfl
 |succ r ih=>
  rw [seqN,ih (v+1),seqN];simp only [List.cons_append];rw [show v+1+r=v+(r+1) by omega]
def enS (s:Nat):Nat->List Int->Nat->List (List Int)
 |0,g,_=>[g]
 |f+1,g,p=>if 0<nth g p then enS s f g (p+1) else (rep s).flatMap fun x=>enS s f (g.set p x) (p+1)
theorem take_take {α:Type} (m:Nat) (X Y:List α):(X.take m++Y).take m=(X++Y).take m:=by
 by_cases h:X.length<=m
 ·rw [List.take_of_length_le h]
 ·have h1:(X.take m).length=m:=by rw [List.length_take];omega
  rw [List.take_append_of_le_length (by omega),List.take_append_of_le_length (by omega),List.take_take,Nat.min_self]
theorem take_self {α:Type} {m:Nat} {X:List α} (Y:List α) (h:X.length=m):(X++Y).take m=X:=by
 rw [List.take_append_of_le_length (by omega),List.take_of_length_le (by omega)]
theorem s5_is {fit:List Int->Bool} {s most:Nat} (In:Nat->List Int->Nat->Prop)
 (h1:∀ f g p,In (f+1) g p->0<nth g p->In f g (p+1)) (h2:∀ f g p x,In (f+1) g p->¬ 0<nth g p->x∈rep s->In f (g.set p x) (p+1))
 (hm:∀ f g p y,In f g p->y∈enS s f g p->fit y=true->fit g=true):
 ∀ f g p Ls,In f g p->fit g=true->Ls.length<most->s5 fit s most f g p Ls=(Ls++(enS s f g p).filter fit).take most:=by
 intro f
 induction f with
 |zero=>
  intro g p Ls _ hf hl;simp only [s5,enS];rw [List.filter_cons_of_pos hf,List.filter_nil,List.take_of_length_le (by simp;omega)]
 |succ f ih=>
  intro g p Ls hI hf hl;simp only [s5,enS]
  by_cases hp:0<nth g p
  ·rw [if_pos hp,if_pos hp];exact ih g (p+1) Ls (h1 f g p hI hp) hf hl
  ·rw [if_neg hp,if_neg hp]
   have key:∀ r v Ls,(∀ x∈seqN v r,x∈rep s)->Ls.length<=most->
       tryV fit (fun g' L'=>s5 fit s most f g' (p+1) L') g p most r v Ls=(Ls++((seqN v r).flatMap fun x=>enS s f (g.set p x) (p+1)).filter fit).take most:=by
    intro r
    induction r with
    |zero=>intro v Ls _ hle;simp only [tryV,seqN,List.flatMap_nil,List.filter_nil,List.append_nil];exact (List.take_of_length_le hle).symm
    |succ r ihr=>
     intro v Ls hin hle;simp only [tryV,seqN,List.flatMap_cons,List.filter_append]
     by_cases hlt:Ls.length<most
     ·rw [if_pos hlt];have hv:=hin (v:Int) (by simp [seqN]);have hIv:=h2 f g p v hI hp hv
      have e:(if fit (g.set p (v:Int))=true then s5 fit s most f (g.set p (v:Int)) (p+1) Ls else Ls)=(Ls++(enS s f (g.set p (v:Int)) (p+1)).filter fit).take most:=by
       by_cases hfit:fit (g.set p (v:Int))=true
       ·rw [if_pos hfit];exact ih _ _ _ hIv hfit hlt
       ·rw [if_neg hfit]
        have:(enS s f (g.set p (v:Int)) (p+1)).filter fit=[]:=by
         rw [List.filter_eq_nil_iff];intro y hy hfy;exact hfit (hm _ _ _ y hIv hy hfy)
        rw [this,List.append_nil,List.take_of_length_le hle]
      rw [e,ihr (v+1) _ (fun x hx=>hin x (by simp [seqN,hx])) (by rw [List.length_take];omega),take_take,List.append_assoc]
     ·rw [if_neg hlt];exact (take_self _ (by omega)).symm
   exact key s 1 Ls (fun x hx=>hx) (by omega)
theorem enS_in {s:Nat}:∀ f g p y,y∈enS s f g p->p+f=g.length->y.length=g.length/\(∀ i,i<p->nth y i=nth g i)/\∀ i,p<=i->i<g.length->(0<nth g i->nth y i=nth g i)/\(¬ 0<nth g i->nth y i∈rep s):=by
 intro f
 induction f with
 |zero=>
  intro g p y hy hl;simp only [enS,List.mem_singleton] at hy;subst hy;exact ⟨rfl,fun _ _=>rfl,fun i h1 h2=>absurd h2 (by omega)⟩
 |succ f ih=>
  intro g p y hy hl;simp only [enS] at hy
  split at hy
  ·next hp=>
   obtain ⟨a,b,c⟩:=ih g (p+1) y hy (by omega);refine ⟨a,fun i hi=>b i (by omega),fun i h1 h2=>?_⟩
   by_cases e:i=p
   ·subst e;exact ⟨fun _=>b i (by omega),fun h=>absurd hp h⟩
   ·exact c i (by omega) h2
  ·next hp=>
   obtain ⟨x,hx,hy⟩:=List.mem_flatMap.1 hy;obtain ⟨a,b,c⟩:=ih _ (p+1) y hy (by rw [List.length_set];omega);rw [List.length_set] at a c;refine ⟨a,fun i hi=>?_,fun i h1 h2=>?_⟩
   ·rw [b i (by omega),nth_set (by omega),if_neg (by omega)]
   ·by_cases e:i=p
    ·subst e;refine ⟨fun h=>absurd h hp,fun _=>?_⟩;rw [b i (by omega),nth_set (by omega),if_pos rfl];exact hx
    ·have:=c i (by omega) h2;rw [nth_set (by omega),if_neg (by omega)] at this;exact this
theorem fit_mono {s:Nat} {gi:List Int} {rs:List RuleM} {g y:List Int} (hs:s∈[2,3,4]) (hr:∀ i,i<rs.length->rvR s (rat rs i)=true) (hgy:gv y s=true) (hgg:gv g s=true) (hl:y.length=g.length) (h:∀ i,i<y.length->nth g i=nth y i\/nth g i=0) (hf:fitB s gi rs y=true):fitB s gi rs g=true:=by
 simp only [fitB,Bool.and_eq_true,List.all_eq_true,List.mem_range,Bool.not_eq_true'] at hf ⊢;obtain ⟨⟨f1,f2⟩,f3⟩:=hf
 have hln:y.length=s*s:=by
  have:=gv_len hgy
  simp at hs
  rcases hs with rfl|rfl|rfl<;>omega
 refine ⟨⟨fun i hi=>?_,fun i hi=>?_⟩,?_⟩
 ·rcases h i (by omega) with e|e
  ·have:=f1 i (by omega);unfold giveOk at this ⊢;rw [e];exact this
  ·unfold giveOk;rw [e]
   simp
 ·have h1:=f2 i hi;have h2:=hr i hi;unfold rpR at h1 ⊢;exact rp_mono h2 hgy hgg hs h h1
 ·cases hc:clash g s
  ·rfl
  ·obtain ⟨i,j,hi,hj,ha,e,h0⟩:=(clash_iff hs).1 hc;have ei:nth g i=nth y i:=(h i (by omega)).resolve_right (by omega);have ej:nth g j=nth y j:=(h j (by omega)).resolve_right (by omega);have:clash y s=true:=(clash_iff hs).2 ⟨i,j,hi,hj,ha,by rw [<- ei,<-ej,e],by rw [<- ej];exact h0⟩;rw [f3] at this;cases this
theorem okAll_gv' {s:Nat} {y:List Int} (hs:s∈[2,3,4]) (hl:y.length=s*s) (h:∀ i,i<s*s->0<=nth y i/\nth y i<=s):gv y s=true:=by
 simp at hs
 exact okAll_gv hl (by rcases hs with rfl|rfl|rfl<;>decide) (by omega) (by omega) h
def solL (s:Nat) (gi:List Int) (rs:List RuleM):List (List Int):=(enS s gi.length gi 0).filter (fitB s gi rs)
theorem enS_full {s:Nat} {y:List Int} (hs:s∈[2,3,4]) {f:Nat} {g:List Int} {p:Nat} (hp:p+f=g.length) (hlg:g.length=s*s) (hg:∀ i,i<s*s->0<=nth g i/\nth g i<=s) (hy:y∈enS s f g p):y.length=s*s/\gv y s=true/\∀ i,i<s*s->nth g i=nth y i\/nth g i=0:=by
 obtain ⟨a,b,c⟩:=enS_in f g p y hy hp
 have key:∀ i,i<s*s->(nth g i=nth y i\/nth g i=0)/\(0<=nth y i/\nth y i<=s):=fun i hi=>by
  have hgi:=hg i hi
  by_cases h1:i<p
  ·rw [b i h1];exact ⟨.inl rfl,hgi⟩
  ·obtain ⟨c1,c2⟩:=c i (by omega) (by omega)
   by_cases h0:0<nth g i
   ·rw [c1 h0];exact ⟨.inl rfl,hgi⟩
   ·obtain ⟨u,e,u1,u2⟩:=rep_mem.1 (c2 h0);exact ⟨.inr (by omega),by omega⟩
 exact ⟨a.trans hlg,okAll_gv' hs (a.trans hlg) (fun i hi=>(key i hi).2),fun i hi=>(key i hi).1⟩
theorem allS_is {s:Nat} {gi:List Int} {rs:List RuleM} {most n:Nat} (hl:gi.length=n) (hv:pvB s gi rs=true) (h0:0<most):allS s most n gi rs=(solL s gi rs).take most:=by
 obtain ⟨t,ht,hs,hn,_,hok⟩:=pv_grid hv hl
 obtain rfl:s=t:=by omega
 obtain ⟨hgi,_,hr⟩:=pv_gv hv
 have hn':n=s*s:=by
  simp at hs
  rcases hs with rfl|rfl|rfl<;>omega
 subst hn'
 let In:Nat->List Int->Nat->Prop:=fun f g p=>p+f=s*s/\g.length=s*s/\∀ i,i<s*s->0<=nth g i/\nth g i<=(s:Int)
 have hmono:∀ f g p y,In f g p->y∈enS s f g p->fitB s gi rs y=true->fitB s gi rs g=true:=by
  rintro f g p y ⟨i1,i2,i3⟩ hy hf;obtain ⟨q1,q2,q3⟩:=enS_full hs (by omega) i2 i3 hy;exact fit_mono hs hr q2 (okAll_gv' hs i2 i3) (by omega) (fun i hi=>q3 i (by omega)) hf
 have hI0:In (s*s) gi 0:=⟨by omega,hl,hok⟩;unfold allS solL;rw [hl]
 by_cases hf:fpB s gi rs gi=true
 ·have hfit:fitB s gi rs gi=true:=by simp only [fpB,Bool.and_eq_true] at hf;exact hf.2
  rw [if_pos hf,Int.toNat_natCast];have:=s5_is (fit:=fitB s gi rs) (s:=s) (most:=most) In ?_ ?_ hmono (s*s) gi 0 [] hI0 hfit (by simpa using h0)
  ·rw [this,List.nil_append]
  ·rintro f g p ⟨i1,i2,i3⟩ _;exact ⟨by omega,i2,i3⟩
  ·rintro f g p x ⟨i1,i2,i3⟩ _ hx;refine ⟨by omega,by rw [List.length_set];exact i2,fun i hi=>?_⟩;rw [nth_set (by omega)]
   split
   ·obtain ⟨u,e,u1,u2⟩:=rep_mem.1 hx;omega
   ·exact i3 i hi
 ·rw [if_neg hf]
  have:(enS s (s*s) gi 0).filter (fitB s gi rs)=[]:=by
   rw [List.filter_eq_nil_iff];intro y hy hfy
   apply hf
   have:=hmono _ _ _ y hI0 hy hfy;simp only [fpB,Bool.and_eq_true];exact ⟨⟨hv,hgi⟩,this⟩
  rw [this,List.take_nil]
def lastN (xs:List Int):Nat->Nat
 |0=>0
 |k+1=>max (lastN xs k) (nth xs k).toNat
theorem lastN_ge {xs:List Int}:∀ {n i:Nat},i<n->(nth xs i).toNat<=lastN xs n:=by
 intro n
 induction n with
 |zero=>intro i h;omega
 |succ n ih=>
  intro i h;simp only [lastN]
  by_cases e:i=n
  ·subst e;omega
  ·have:=ih (i:=i) (by omega);omega
theorem lastN_at {xs:List Int}:∀ {n:Nat},0<n->∃ i,i<n/\(nth xs i).toNat=lastN xs n:=by
 intro n
 induction n with
 |zero=>intro h;omega
 |succ n ih=>
  intro _;simp only [lastN]
  by_cases e:n=0
  ·subst e;exact ⟨0,by omega,by simp [lastN]⟩
  ·obtain ⟨i,h1,h2⟩:=ih (by omega)
   by_cases h:lastN xs n<=(nth xs n).toNat
   ·exact ⟨n,by omega,by omega⟩
   ·exact ⟨i,by omega,by omega⟩
def lastR (r:RuleM):Nat:=lastN r.xs r.xs.length
def rulesAt (rs:List RuleM) (p:Nat):List RuleM:=rs.filter fun r=>lastR r==p
def noConf (s:Nat) (us:List Int) (p:Nat):Bool:=(List.range p).all fun i=> !(adj s i p&&(nth us i==nth us p))
def rlOk (rs:List RuleM) (us:List Int) (p:Nat):Bool:=(rulesAt rs p).all fun r=>holdsB r.k r.v (pks us r.xs r.xs.length)
def stB (s:Nat) (rs:List RuleM) (us:List Int) (p:Nat):Bool:=noConf s us p&&rlOk rs us p
def cv (s:Nat) (gi:List Int) (rs:List RuleM):Nat->List Int->List (List Int)
 |0,vs=>[vs]
 |f+1,vs=>(bitsTo (candN gi s vs.length) 4).flatMap fun v=>if stB s rs (vs++[v]) vs.length=true then cv s gi rs f (vs++[v]) else []
theorem flat_none {α β:Type} {L:List α} {f:α->List β} (h:∀ x∈L,f x=[]):L.flatMap f=[]:=by
 induction L with
 |nil=>rfl
 |cons a L ih=>rw [List.flatMap_cons,h a (List.mem_cons_self ..),List.nil_append,ih (fun x hx=>h x (List.mem_cons_of_mem _ hx))]
theorem flat_congr {α β:Type} {L:List α} {f g:α->List β} (h:∀ x∈L,f x=g x):L.flatMap f=L.flatMap g:=by
 induction L with
 |nil=>rfl
 |cons a L ih=>rw [List.flatMap_cons,List.flatMap_cons,h a (List.mem_cons_self ..),ih (fun x hx=>h x (List.mem_cons_of_mem _ hx))]
theorem bits_rep {β:Type} {M s:Nat} (f:Int->List β) (hs:s<=4) (hM:∀ u,s<u->M.testBit u=false):(bitsTo M 4).flatMap f=(rep s).flatMap fun v=>if M.testBit v.toNat=true then f v else []:=by
 have h1:∀ u,(bitsTo M u).flatMap f=(rep u).flatMap fun v=>if M.testBit v.toNat=true then f v else []:=by
  intro u
  induction u with
  |zero=>rfl
  |succ u ih=>
   rw [bits_flat,ih];unfold rep;rw [seqN_snoc,List.flatMap_append];have e:((1+u:Nat):Int)=(u:Int)+1:=(by omega);have e2:((u:Int)+1).toNat=u+1:=(by omega);simp only [List.flatMap_cons,List.flatMap_nil,List.append_nil,e,e2]
 have h2:∀ d,(rep (s+d)).flatMap (fun v=>if M.testBit v.toNat=true then f v else [])=(rep s).flatMap fun v=>if M.testBit v.toNat=true then f v else []:=by
  intro d
  induction d with
  |zero=>rfl
  |succ d ih=>
   rw [<- ih];unfold rep;rw [show s+(d+1)=(s+d)+1 by omega,seqN_snoc,List.flatMap_append];simp only [List.flatMap_cons,List.flatMap_nil,List.append_nil];rw [show (((1+(s+d):Nat):Int)).toNat=1+(s+d) by omega,hM _ (by omega)]
   simp
 rw [h1,<-h2 (4-s),show s+(4-s)=4 by omega]
theorem pks_take {y xs:List Int} {m n p:Nat} (hx:∀ i,i<n->(nth xs i).toNat<p) (hp:p<=m):pks (y.take m) xs n=pks y xs n:=by
 unfold pks
 apply ext_nth (by rw [mapTo_length,mapTo_length])
 intro k hk;rw [mapTo_length] at hk;rw [mapTo_nth hk,mapTo_nth hk];have:=hx k hk;simp only [nth,List.getD_eq_getElem?_getD,List.getElem?_take];unfold nth at this;rw [List.getD_eq_getElem?_getD] at this;rw [if_pos (by omega)]
theorem rv_cells {s:Nat} {r:RuleM} (h:rvR s r=true):0<r.xs.length/\∀ i,i<r.xs.length->0<=nth r.xs i/\(nth r.xs i).toNat<s*s:=by
 obtain ⟨_,h2,_,h4⟩:=rv_facts rfl h;refine ⟨by omega,fun i hi=>?_⟩;obtain ⟨a,b⟩:=h4 i hi;refine ⟨a,?_⟩
 have e:((s*s:Nat):Int)=(s:Int)*s:=by simp
 omega
theorem last_lt {s:Nat} {r:RuleM} (h:rvR s r=true):lastR r<s*s:=by
 obtain ⟨h0,h1⟩:=rv_cells h;obtain ⟨i,hi,e⟩:=lastN_at (xs:=r.xs) h0;unfold lastR;rw [<- e];exact (h1 i hi).2
theorem rat_mem {rs:List RuleM} {r:RuleM} (h:r∈rs):∃ i,i<rs.length/\rat rs i=r:=by
 obtain ⟨i,hi,e⟩:=List.getElem_of_mem h;exact ⟨i,hi,by simp [rat,List.getD_eq_getElem?_getD,hi,e]⟩
theorem full_holds {s:Nat} {r:RuleM} {y:List Int} (hr:rvR s r=true) (hg:gv y s=true) (hf:∀ i,i<s*s->nth y i≠0):rpR s y r=holdsB r.k r.v (pks y r.xs r.xs.length):=by
 obtain ⟨_,h1⟩:=rv_cells hr;exact rp_full hr hg (fun i hi=>by unfold pks;rw [mapTo_nth hi];exact hf _ (h1 i hi).2)
theorem fit_st {s:Nat} {gi y:List Int} {rs:List RuleM} (hs:s∈[2,3,4]) (hr:∀ i,i<rs.length->rvR s (rat rs i)=true) (hl:y.length=s*s) (hg:gv y s=true) (hf:∀ i,i<s*s->nth y i≠0) (h:fitB s gi rs y=true) {p:Nat} (hp:p<s*s):stB s rs (y.take (p+1)) p=true:=by
 simp only [fitB,Bool.and_eq_true,List.all_eq_true,List.mem_range,Bool.not_eq_true'] at h;obtain ⟨⟨_,f2⟩,f3⟩:=h;simp only [stB,noConf,rlOk,Bool.and_eq_true,List.all_eq_true,List.mem_range,Bool.not_eq_true',Bool.and_eq_false_iff]
 constructor
 ·intro i hi;rw [nth_take (by omega),nth_take (by omega)];cases ha:adj s i p
  ·exact .inl rfl
  ·refine .inr ?_;rw [beq_eq_false_iff_ne];intro e;have h0:=hf p hp;have hgp:=gv_nth hg (k:=p) (by omega);have:clash y s=true:=(clash_iff hs).2 ⟨i,p,by omega,hp,ha,e,by omega⟩;rw [f3] at this;cases this
 ·intro r hrm;obtain ⟨hr1,hr2⟩:=List.mem_filter.1 hrm;rw [beq_iff_eq] at hr2;obtain ⟨i,hi,rfl⟩:=rat_mem hr1;rw [pks_take (p:=p+1) (fun j hj=>by have:=lastN_ge (xs:=(rat rs i).xs) hj;unfold lastR at hr2;omega) (Nat.le_refl _),<-full_holds (hr i hi) hg hf];exact f2 i hi
theorem st_fit {s:Nat} {gi y:List Int} {rs:List RuleM} (hs:s∈[2,3,4]) (hr:∀ i,i<rs.length->rvR s (rat rs i)=true) (hl:y.length=s*s) (hg:gv y s=true) (hf:∀ i,i<s*s->nth y i≠0) (hgi:∀ i,i<s*s->0<nth gi i->nth y i=nth gi i) (h:∀ p,p<s*s->stB s rs (y.take (p+1)) p=true):fitB s gi rs y=true:=by
 have hc:∀ i j,i<j->j<s*s->adj s i j=true->nth y i≠nth y j:=fun i j hij hj ha e=>by
  have:=h j hj;simp only [stB,noConf,Bool.and_eq_true,List.all_eq_true,List.mem_range,Bool.not_eq_true',Bool.and_eq_false_iff] at this
  rcases this.1 i hij with h1|h1
  ·rw [ha] at h1;cases h1
  ·rw [nth_take (by omega),nth_take (by omega),e] at h1
   simp at h1
 simp only [fitB,Bool.and_eq_true,List.all_eq_true,List.mem_range,Bool.not_eq_true'];refine ⟨⟨fun i hi=>?_,fun i hi=>?_⟩,?_⟩
 ·unfold giveOk
  by_cases h0:0<nth gi i
  ·rw [hgi i (by omega) h0];simp
  ·simp [h0]
 ·rw [full_holds (hr i hi) hg hf];have:=h (lastR (rat rs i)) (last_lt (hr i hi));simp only [stB,rlOk,Bool.and_eq_true,List.all_eq_true] at this
  have:=this.2 (rat rs i) (List.mem_filter.2 ⟨by
   have:rat rs i=rs[i]:=(by simp [rat,List.getD_eq_getElem?_getD,hi])
   rw [this];exact List.getElem_mem _,by simp⟩)
  rw [pks_take (p:=lastR (rat rs i)+1) (fun j hj=>by have:=lastN_ge (xs:=(rat rs i).xs) hj;unfold lastR;omega) (Nat.le_refl _)] at this;exact this
 ·cases e:clash y s
  ·rfl
  ·obtain ⟨i,j,hi,hj,ha,e1,_⟩:=(clash_iff hs).1 e;have hne:=(adj_ne s i j).1 ha
   rcases Nat.lt_or_gt_of_ne hne with hlt|hlt
   ·exact absurd e1 (hc i j hlt hj ha)
   ·exact absurd e1.symm (hc j i hlt hi (by rw [<- adj_sym s hs i hi j hj];exact ha))
theorem cv_is {s:Nat} {gi:List Int} {rs:List RuleM} (hv:pvB s gi rs=true):cv s gi rs gi.length []=solL s gi rs:=by
 obtain ⟨t,ht,hs,hn,_,hok⟩:=pv_grid hv rfl
 obtain rfl:s=t:=by omega
 obtain ⟨hgi,_,hr⟩:=pv_gv hv
 have hl:gi.length=s*s:=by
  simp at hs
  rcases hs with rfl|rfl|rfl<;>omega
 have hs4:s<=4:=by simp at hs;omega
 rw [hl] at hok;unfold solL;rw [hl]
 have key:∀ f vs,vs.length+f=s*s->(∀ i,i<vs.length->1<=nth vs i/\nth vs i<=(s:Int)/\(0<nth gi i->nth vs i=nth gi i))->(∀ p,p<vs.length->stB s rs (vs.take (p+1)) p=true)->
     cv s gi rs f vs=(enS s f (vs++gi.drop vs.length) vs.length).filter (fitB s gi rs):=by
  intro f
  induction f with
  |zero=>
   intro vs hf hvs hst;simp only [cv,enS];have hd:gi.drop vs.length=[]:=List.drop_of_length_le (by omega);rw [hd,List.append_nil];have hgv:gv vs s=true:=okAll_gv' hs (by omega) (fun i hi=>by have:=hvs i (by omega);omega);rw [List.filter_cons_of_pos (st_fit hs hr (by omega) hgv (fun i hi=>by have:=hvs i (by omega);omega) (fun i hi h0=>(hvs i (by omega)).2.2 h0) (fun p hp=>hst p (by omega))),List.filter_nil]
  |succ f ih=>
   intro vs hf hvs hst;have hpn:vs.length<s*s:=(by omega);have hlen:(vs++gi.drop vs.length).length=s*s:=(by rw [List.length_append,List.length_drop];omega)
   have hgp:nth (vs++gi.drop vs.length) vs.length=nth gi vs.length:=by
    simp only [nth,List.getD_eq_getElem?_getD];rw [List.getElem?_append_right (Nat.le_refl _),Nat.sub_self,List.getElem?_drop,Nat.add_zero]
   have hset:∀ x,(vs++gi.drop vs.length).set vs.length x=(vs++[x])++gi.drop (vs++[x]).length:=fun x=>by
    rw [List.length_append,List.length_singleton];have:gi.drop vs.length=gi[vs.length]'(by omega)::gi.drop (vs.length+1):=List.drop_eq_getElem_cons (by omega);rw [this,List.set_append_right _ _ (Nat.le_refl _),Nat.sub_self,List.set_cons_zero,List.append_assoc];rfl
   have hgrid:∀ i,i<s*s->0<=nth (vs++gi.drop vs.length) i/\nth (vs++gi.drop vs.length) i<=(s:Int):=fun i hi=>by
    by_cases h:i<vs.length
    ·have:nth (vs++gi.drop vs.length) i=nth vs i:=(by simp [nth,List.getD_eq_getElem?_getD,List.getElem?_append_left h]);rw [this];have:=hvs i h;omega
    ·have:nth (vs++gi.drop vs.length) i=nth gi i:=by
      simp [nth,List.getD_eq_getElem?_getD,List.getElem?_append_right (show vs.length<=i by omega),show vs.length+(i-vs.length)=i by omega]
     rw [this];exact hok i hi
   have one:∀ x,1<=x->x<=(s:Int)->(0<nth gi vs.length->x=nth gi vs.length)->(if stB s rs (vs++[x]) vs.length=true then cv s gi rs f (vs++[x]) else [])=(enS s f ((vs++[x])++gi.drop (vs++[x]).length) (vs.length+1)).filter (fitB s gi rs):=fun x x1 x2 xg=>by
    by_cases h:stB s rs (vs++[x]) vs.length=true
    ·rw [if_pos h,ih (vs++[x]) (by rw [List.length_append,List.length_singleton];omega) ?_ ?_]
     ·rw [List.length_append,List.length_singleton]
     ·intro i hi;rw [List.length_append,List.length_singleton] at hi;rw [nth_push rfl]
      by_cases e:i<vs.length
      ·rw [if_pos e];exact hvs i e
      ·obtain rfl:i=vs.length:=by omega
       rw [if_neg e,if_pos rfl];exact ⟨x1,x2,xg⟩
     ·intro p hp;rw [List.length_append,List.length_singleton] at hp
      by_cases e:p<vs.length
      ·rw [List.take_append_of_le_length (by omega)];exact hst p e
      ·obtain rfl:p=vs.length:=by omega
       rw [List.take_of_length_le (by simp)];exact h
    ·rw [if_neg h]
     symm
     rw [List.filter_eq_nil_iff];intro y hy hfy;rw [<- hset x] at hy;have hl2:((vs++gi.drop vs.length).set vs.length x).length=s*s:=(by rw [List.length_set];exact hlen)
     have hg2:∀ i,i<s*s->0<=nth ((vs++gi.drop vs.length).set vs.length x) i/\nth ((vs++gi.drop vs.length).set vs.length x) i<=(s:Int):=fun i hi=>by
      rw [nth_set (by omega)]
      split
      ·omega
      ·exact hgrid i hi
     obtain ⟨q1,q2,_⟩:=enS_full hs (by omega) hl2 hg2 hy;obtain ⟨_,b,c⟩:=enS_in f _ _ y hy (by omega)
     have hpre:∀ i,i<vs.length+1->nth y i=nth (vs++[x]) i:=fun i hi=>by
      rw [b i hi,nth_set (by omega),nth_push rfl]
      by_cases e:i<vs.length
      ·rw [if_neg (by omega),if_pos e]
       simp [nth,List.getD_eq_getElem?_getD,List.getElem?_append_left e]
      ·rw [if_pos (by omega),if_neg e,if_pos (by omega)]
     have hfull:∀ i,i<s*s->nth y i≠0:=fun i hi=>by
      by_cases e:i<vs.length+1
      ·rw [hpre i e,nth_push rfl]
       by_cases e2:i<vs.length
       ·rw [if_pos e2];have:=hvs i e2;omega
       ·rw [if_neg e2,if_pos (by omega)];omega
      ·obtain ⟨c1,c2⟩:=c i (by omega) (by omega)
       by_cases h0:0<nth ((vs++gi.drop vs.length).set vs.length x) i
       ·rw [c1 h0];omega
       ·obtain ⟨u,e3,u1,_⟩:=rep_mem.1 (c2 h0);omega
     have htake:y.take (vs.length+1)=vs++[x]:=by
      apply ext_nth (by rw [List.length_take,q1,List.length_append,List.length_singleton];omega)
      intro k hk;rw [List.length_take] at hk;rw [nth_take (by omega)];exact hpre k (by omega)
     have:=fit_st hs hr q1 q2 hfull hfy hpn;rw [htake] at this;exact h this
   simp only [cv,enS];rw [hgp]
   by_cases h0:0<nth gi vs.length
   ·rw [if_pos h0];have ho:=hok _ hpn;obtain ⟨u,hu⟩:=Int.eq_ofNat_of_zero_le (show 0<=nth gi vs.length by omega);have hc:candN gi s vs.length=2^u:=(by unfold candN;rw [if_pos h0,hu,Int.toNat_natCast]);rw [hc,bits_pow u (by omega) (by omega)];simp only [List.flatMap_cons,List.flatMap_nil,List.append_nil];rw [<- hu,one (nth gi vs.length) (by omega) (by omega) (fun _=>rfl),<-hset]
    have:(vs++gi.drop vs.length).set vs.length (nth gi vs.length)=vs++gi.drop vs.length:=by
     apply ext_nth (by rw [List.length_set])
     intro k hk;rw [List.length_set] at hk;rw [nth_set (by omega)]
     split
     ·next e=>subst e;exact hgp.symm
     ·rfl
    rw [this]
   ·rw [if_neg h0];have ho:=hok _ hpn;have hc:candN gi s vs.length=candTo gi s vs.length s:=(by unfold candN;rw [if_neg h0,Int.toNat_natCast])
    rw [hc,bits_rep _ hs4 (fun u hu=>by
      cases hb:(candTo gi s vs.length s).testBit u
      ·rfl
      ·have:=(candTo_test gi s vs.length u s).1 hb;omega),List.filter_flatMap]
    apply flat_congr
    intro x hx;obtain ⟨u,rfl,u1,u2⟩:=rep_mem.1 hx;rw [Int.toNat_natCast,hset,<-one u (by omega) (by omega) (fun h=>absurd h h0)]
    by_cases hb:(candTo gi s vs.length s).testBit u=true
    ·rw [if_pos hb]
    ·rw [if_neg hb]
     symm
     rw [one u (by omega) (by omega) (fun h=>absurd h h0),List.filter_eq_nil_iff];intro y hy hfy;rw [<- hset] at hy;have hl2:((vs++gi.drop vs.length).set vs.length (u:Int)).length=s*s:=(by rw [List.length_set];exact hlen)
     have hg2:∀ i,i<s*s->0<=nth ((vs++gi.drop vs.length).set vs.length (u:Int)) i/\nth ((vs++gi.drop vs.length).set vs.length (u:Int)) i<=(s:Int):=fun i hi=>by
      rw [nth_set (by omega)]
      split
      ·omega
      ·exact hgrid i hi
     obtain ⟨q1,q2,_⟩:=enS_full hs (by omega) hl2 hg2 hy;obtain ⟨_,b,c⟩:=enS_in f _ _ y hy (by omega)
     apply hb
     rw [candTo_test,Int.toNat_natCast];refine ⟨u1,u2,(ok3_adj hs hpn _).2 (fun i hi ha e=>?_)⟩;simp only [fitB,Bool.and_eq_true,List.all_eq_true,List.mem_range,Bool.not_eq_true'] at hfy;obtain ⟨⟨f1,_⟩,f3⟩:=hfy;have hyp:nth y vs.length=(u:Int):=(by rw [b _ (by omega),nth_set (by omega),if_pos rfl]);have hne:=(adj_ne s i vs.length).1 ha;have hgy:giveOk gi y i=true:=f1 i (by omega)
     have hy0:0<nth y i:=by
      by_cases e2:i<vs.length+1
      ·rw [b i e2,nth_set (by omega),if_neg (by omega)];have:nth (vs++gi.drop vs.length) i=nth vs i:=(by simp [nth,List.getD_eq_getElem?_getD,List.getElem?_append_left (show i<vs.length by omega)]);rw [this];have:=hvs i (by omega);omega
      ·obtain ⟨c1,c2⟩:=c i (by omega) (by omega)
       by_cases h3:0<nth ((vs++gi.drop vs.length).set vs.length (u:Int)) i
       ·rw [c1 h3];exact h3
       ·obtain ⟨u',e3,u1',_⟩:=rep_mem.1 (c2 h3);omega
     have hyi:nth y i=(u:Int):=by
      unfold giveOk at hgy;rw [e] at hgy
      simp [hy0] at hgy
      exact hgy.resolve_left (by omega)
     have:clash y s=true:=(clash_iff hs).2 ⟨i,vs.length,hi,hpn,ha,by rw [hyi,hyp],by omega⟩;rw [f3] at this;cases this
 have:=key (s*s) [] (by simp) (fun i hi=>absurd hi (by simp)) (fun p hp=>absurd hp (by simp))
 simpa using this
end Go.Proofs.YtkeoflnmbcdmfaaGreatDoor
namespace Go.Proofs.YtkeoflnmbcdmfaaGreatDoor
open Go.ChangeShapes Go.WideShapes Go.ChangeAt Go.RowKit
def sqCnt (s:Int):Int:=if s=2 then 2 else if s=3 then 12 else 576
theorem sols_cnt {s:Int} (h2:2<=s) (h4:s<=4):((sols s (s*s).toNat (zeros (s*s).toNat) 0).length:Int)=sqCnt s:=by
 have:s=2\/s=3\/s=4:=by omega
 rcases this with rfl|rfl|rfl
 ·exact congrArg Int.ofNat sols2
 ·exact congrArg Int.ofNat sols3
 ·exact congrArg Int.ofNat sols4
theorem sqn_none {s n:Int} (h2:2<=s) (h4:s<=4) (h:n<0\/sqCnt s<=n):sqn s n=[]:=by
 unfold sqn
 split
 ·next hh=>
  have hc:=sols_cnt h2 h4;rw [List.getElem?_eq_none (by omega)];rfl
 ·rfl
theorem sqn_bad {s n:Int} (h:¬ (2<=s/\s<=4)):sqn s n=[]:=by
 have:inr s 2 4=false:=by simp only [inr,decide_eq_false_iff_not];exact h
 simp [sqn,this]
theorem sqn_some {s n:Int} (h2:2<=s) (h4:s<=4) (n0:0<=n) (n1:n<sqCnt s):(sqn s n).length=(s*s).toNat/\sqSolved (sqn s n) s=true/\(n+1<sqCnt s->(sqn s (n+1)).length=(s*s).toNat/\lexlt (s*s).toNat (sqn s n) (sqn s (n+1))):=by
 obtain ⟨q4,q16⟩:=sq_bd h2 h4
 have hs:inr s 2 4=true:=by simp [inr,h2,h4]
 have hc:=sols_cnt h2 h4;have hnn:(((s*s).toNat:Nat):Int)=s*s:=Int.toNat_of_nonneg (by omega)
 have get:∀ m:Int,0<=m->(hm:m<sqCnt s)->∃ h:m.toNat<(sols s (s*s).toNat (zeros (s*s).toNat) 0).length,sqn s m=(sols s (s*s).toNat (zeros (s*s).toNat) 0)[m.toNat]:=fun m m0 hm=>by
  have h:m.toNat<(sols s (s*s).toNat (zeros (s*s).toNat) 0).length:=by omega
  refine ⟨h,?_⟩;unfold sqn;rw [if_pos ⟨hs,m0⟩,List.getElem?_eq_getElem h];rfl
 obtain ⟨hl,e⟩:=get n n0 n1;have hmem:=List.getElem_mem hl;obtain ⟨a1,a2⟩:=sols_solved h2 h4 hnn hmem;rw [e];refine ⟨a1,a2,fun n2=>?_⟩;obtain ⟨hl2,e2⟩:=get (n+1) (by omega) n2;rw [e2];refine ⟨(sols_solved h2 h4 hnn (List.getElem_mem hl2)).1,?_⟩;have hs:=sols_sorted (size:=s) (s*s).toNat (s*s).toNat (zeros (s*s).toNat) 0 (Nat.zero_add _) (zeros_length _);rw [List.pairwise_iff_getElem] at hs;exact hs n.toNat (n+1).toNat hl hl2 (by omega)
end Go.Proofs.YtkeoflnmbcdmfaaGreatDoor
namespace Go.Proofs.YtkeoflnmbcdmfaaGreatDoor
open Go.ChangeShapes Go.WideShapes Go.ChangeAt Go.RowKit
theorem subset_and (a m:Nat) (ha:a<2^64) (hm:m<2^64) (h:a&&&(2^64-(m+1))=0):a=a&&&m:=by
 apply Nat.eq_of_testBit_eq
 intro i;rw [Nat.testBit_and];cases hai:a.testBit i
 ·rfl
 ·have hi:i<64:=by
   rcases Nat.lt_or_ge i 64 with h|h
   ·exact h
   ·have:=Nat.testBit_lt_two_pow (Nat.lt_of_lt_of_le ha (Nat.pow_le_pow_right (by decide) h));rw [hai] at this;cases this
  have h2:=congrArg (fun z=>z.testBit i) h;simp only [Nat.testBit_and,hai,Nat.testBit_two_pow_sub_succ hm,hi,Nat.zero_testBit,decide_true,Bool.true_and,Bool.not_eq_false'] at h2;rw [h2];rfl
theorem small_and:∀ s,s<5->∀ a,a<32->a<=2^(s+1)-2->a%2=0->a&&&(18446744073709551616-(2^(s+1)-2+1))=0:=by decide +kernel
theorem even_and:∀ s,s<5->∀ a,a%2=1->a&&&(2^(s+1)-2)≠a:=by
 intro s hs a ha h;have h0:=congrArg (fun z=>z.testBit 0) h
 have e:(2^(s+1)-2).testBit 0=false:=by
  have:s=0\/s=1\/s=2\/s=3\/s=4:=by omega
  rcases this with rfl|rfl|rfl|rfl|rfl<;>rfl
 simp only [Nat.testBit_and,e,Bool.and_false] at h0;rw [Nat.testBit_zero] at h0
 simp [ha] at h0
theorem andNot_ok (x:Int) (s:Nat) (hs:s<=4) (hx: -9223372036854775808<=x/\x<=9223372036854775807):
 (bits .andNot .i64 x ((2^(s+1)-2:Nat):Int)==0)=mkOk ((2:Int)^(s+1)-2) x:=by
 have hp:(2:Int)^(s+1)-2=((2^(s+1)-2:Nat):Int):=by
  have:s=0\/s=1\/s=2\/s=3\/s=4:=by omega
  rcases this with rfl|rfl|rfl|rfl|rfl<;>rfl
 have hm30:2^(s+1)-2<=30:=by
  have:s=0\/s=1\/s=2\/s=3\/s=4:=by omega
  rcases this with rfl|rfl|rfl|rfl|rfl<;>decide
 rw [hp];have hsa:=small_and s (by omega);have hev:=even_and s (by omega)
 generalize 2^(s+1)-2=m at*
 have hmm:(BitVec.ofInt 64 (m:Int)).toNat=m:=ofInt_i64 m (by omega)
 have hb:bits .andNot .i64 x (m:Int)=IntKind.i64.wrap (((BitVec.ofInt 64 x).toNat&&&(2^64-(m+1)):Nat):Int):=by
  show IntKind.i64.wrap ((BitVec.ofInt 64 x&&& ~~~BitVec.ofInt 64 (m:Int)).toNat:Int)=_
  rw [BitVec.toNat_and,BitVec.toNat_not,hmm]
  congr 3
  omega
 have hA:(BitVec.ofInt 64 x).toNat<2^64:=(BitVec.ofInt 64 x).isLt
 have hAx:((BitVec.ofInt 64 x).toNat:Int)=x%2^64:=by
  rw [BitVec.toNat_ofInt];exact Int.toNat_of_nonneg (Int.emod_nonneg _ (by decide))
 rw [hb]
 generalize (BitVec.ofInt 64 x).toNat=a at*
 have hlt:a&&&(2^64-(m+1))<2^64:=Nat.and_lt_two_pow _ (by omega)
 have hw:(IntKind.i64.wrap ((a&&&(2^64-(m+1)):Nat):Int)==0)=(a&&&(2^64-(m+1))==0):=by
  rw [IntKind.wrap_i64];rw [Bool.eq_iff_iff,beq_iff_eq,beq_iff_eq]
  generalize a&&&(2^64-(m+1))=y at*
  omega
 rw [hw,Bool.eq_iff_iff,beq_iff_eq];simp only [mkOk,inr,Bool.and_eq_true,decide_eq_true_eq,beq_iff_eq]
 constructor
 ·intro h;have e:=subset_and a m hA (by omega) h
  have hle:a<=m:=by rw [e];exact Nat.and_le_right
  have h2:a%2=0:=by
   rcases Nat.mod_two_eq_zero_or_one a with h'|h'
   ·exact h'
   ·exact absurd e.symm (hev a h')
  have hxa:x=a:=by omega
  refine ⟨⟨by omega,by omega⟩,?_⟩;rw [Int.tmod_eq_emod_of_nonneg (by omega)];omega
 ·rintro ⟨⟨h1,h2⟩,h3⟩;rw [Int.tmod_eq_emod_of_nonneg h1] at h3;exact hsa a (by omega) (by omega) (by omega)
theorem allValues_any (s:Nat) (hs:s∈[2,3,4]) (w:World):
 Calls Tryz.prog 133 #[.int .i64 s] w fun e w'=>e=.returned (.int .i64 ((2^(s+1)-2:Nat):Int))/\w=w':=by
 simp only [List.mem_cons,List.not_mem_nil,or_false] at hs
 rcases hs with rfl|rfl|rfl
 all_goals
  go_enter Tryz.func133,Tryz.ntmps133
  go_wp2
  go_ret
  exact ⟨rfl,rfl⟩
end Go.Proofs.YtkeoflnmbcdmfaaGreatDoor
namespace Go.Proofs.YtkeoflnmbcdmfaaGreatDoor
open Go.ChangeShapes Go.WideShapes Go.ChangeAt Go.RowKit
theorem ones64_any (M:Nat) (h:M<32) (he:M%2=0) (w:World):Calls Tryz.prog 147 #[.int .u64 M] w fun e w'=>e=.returned (.int .i64 (Lib.onesCount M:Nat))/\w=w':=by
 have:M=0\/M=2\/M=4\/M=6\/M=8\/M=10\/M=12\/M=14\/M=16\/M=18\/M=20\/M=22\/M=24\/M=26\/M=28\/M=30:=by omega
 rcases this with rfl|rfl|rfl|rfl|rfl|rfl|rfl|rfl|rfl|rfl|rfl|rfl|rfl|rfl|rfl|rfl
 all_goals
  go_enter Tryz.func147,Tryz.ntmps147
  go_wp2
  go_ret
  exact ⟨by kernel_rfl,rfl⟩
theorem ones_any (M:Nat) (h:M<32) (he:M%2=0) (w:World):Calls Tryz.prog 100 #[.int .u64 M] w fun e w'=>e=.returned (.int .i64 (Lib.onesCount M:Nat))/\w=w':=by
 go_enter Tryz.func100,Tryz.ntmps100
 go_wp2_with (go_at_call 147;refine (ones64_any M h he _).mono ?_;rintro e w' ⟨rfl,rfl⟩)
 go_ret
 exact ⟨rfl,rfl⟩
theorem ones_lt:∀ M,M<32->Lib.onesCount M<32:=by decide +kernel
theorem ones_bits:∀ M,M<32->M%2=0->Lib.onesCount M=(bitsTo M 4).length:=by decide +kernel
end Go.Proofs.YtkeoflnmbcdmfaaGreatDoor
namespace Go.Proofs.YtkeoflnmbcdmfaaGreatDoor
open Go.ChangeShapes Go.WideShapes Go.ChangeAt Go.RowKit
def tzI:List Nat:=[0,1,3,7,15,31,63,62,61,59,55,47,30,60,57,51]
def Tz (w:World):Prop:=∀ p:Nat,p<16->w.cell? ⟨0,tzI.getD p 0,none⟩=some (.int .u8 (p:Int))
theorem Tz.lt {w:World} (h:Tz w):0<w.heap.size:=cell_lt (h 0 (by decide))
theorem Tz.below {w w':World} {B:Nat} (h:Tz w) (hB:0<B) (hb:Below B w w'):Tz w':=
 fun p hp=>(hb.cell (p:=⟨0,tzI.getD p 0,none⟩) hB).trans (h p hp)
theorem tz64_core (x k idx:Nat) (w:World) (hx0:((x:Int)==0)=false)
 (key:IntKind.u64.wrap (bits BinOp.and IntKind.u64 (x:Int) (IntKind.u64.wrap (-(x:Int)))*285870213051353865)/288230376151711744=(idx:Int))
 (hi:idx<64) (hk:k<64) (hcell:w.cell? ⟨0,idx,none⟩=some (.int .u8 k)):
 Calls Tryz.prog 166 #[.int .u64 x] w fun e w'=>e=.returned (.int .i64 k)/\w=w':=by
 go_enter Tryz.func166,Tryz.ntmps166
 go_wp2_with (simp only [key])
 go_ret
 exact ⟨rfl,rfl⟩
theorem tz_core (x k idx:Nat) (w:World) (hx0:((x:Int)==0)=false)
 (key:IntKind.u64.wrap (bits BinOp.and IntKind.u64 (x:Int) (IntKind.u64.wrap (-(x:Int)))*285870213051353865)/288230376151711744=(idx:Int))
 (hi:idx<64) (hk:k<64) (hcell:w.cell? ⟨0,idx,none⟩=some (.int .u8 k)):
 Calls Tryz.prog 135 #[.int .u64 x] w fun e w'=>e=.returned (.int .i64 k)/\w=w':=by
 have Key:=Lib.hid key;clear key
 go_enter Tryz.func135,Tryz.ntmps135
 go_wp2_with (go_at_call 166;refine (tz64_core x k idx _ hx0 Key.out hi hk hcell).mono ?_;rintro e w' ⟨rfl,rfl⟩)
 go_ret
 exact ⟨rfl,rfl⟩
theorem tz_any (M v:Nat) (w:World) (hT:Tz w) (h:(M=2/\v=1)\/(M=4/\v=2)\/(M=8/\v=3)\/(M=16/\v=4)):Calls Tryz.prog 135 #[.int .u64 M] w fun e w'=>e=.returned (.int .i64 v)/\w=w':=by
 have t1:=hT 1 (by decide);have t2:=hT 2 (by decide);have t3:=hT 3 (by decide);have t4:=hT 4 (by decide)
 rcases h with ⟨rfl,rfl⟩|⟨rfl,rfl⟩|⟨rfl,rfl⟩|⟨rfl,rfl⟩
 ·exact tz_core 2 1 1 w (by decide) (by decide +kernel) (by decide) (by decide) t1
 ·exact tz_core 4 2 3 w (by decide) (by decide +kernel) (by decide) (by decide) t2
 ·exact tz_core 8 3 7 w (by decide) (by decide +kernel) (by decide) (by decide) t3
 ·exact tz_core 16 4 15 w (by decide) (by decide +kernel) (by decide) (by decide) t4
def oneCase (M:Nat):Bool:=if Lib.onesCount M=1 then ((M==2&&oneOf (bitsTo M 4)==1)||(M==4&&oneOf (bitsTo M 4)==2)||(M==8&&oneOf (bitsTo M 4)==3)||(M==16&&oneOf (bitsTo M 4)==4)) else oneOf (bitsTo M 4)==0
theorem one_case:∀ M,M<32->M%2=0->oneCase M=true:=by decide +kernel
theorem onlyValue_any (M:Nat) (h:M<32) (he:M%2=0) (w:World) (hT:Tz w):Calls Tryz.prog 84 #[.int .i64 M] w fun e w'=>e=.returned (.int .i64 (oneOf (bitsTo M 4)))/\w=w':=by
 have hc:=one_case M h he;have hl:=ones_lt M h;unfold oneCase at hc;obtain ⟨p,hp⟩:∃ p,p=Lib.onesCount M:=⟨_,rfl⟩;have Ho:=Lib.hid (fun w=>ones_any M h he w);rw [<- hp] at hc hl Ho
 by_cases h1:p=1
 ·rw [if_pos h1] at hc;simp only [Bool.or_eq_true,Bool.and_eq_true,beq_iff_eq] at hc;subst h1
  have hv:∃ v,oneOf (bitsTo M 4)=(v:Nat)/\((M=2/\v=1)\/(M=4/\v=2)\/(M=8/\v=3)\/(M=16/\v=4)):=by
   rcases hc with ((⟨h1,h2⟩|⟨h1,h2⟩)|⟨h1,h2⟩)|⟨h1,h2⟩
   ·exact ⟨1,h2,.inl ⟨h1,rfl⟩⟩
   ·exact ⟨2,h2,.inr (.inl ⟨h1,rfl⟩)⟩
   ·exact ⟨3,h2,.inr (.inr (.inl ⟨h1,rfl⟩))⟩
   ·exact ⟨4,h2,.inr (.inr (.inr ⟨h1,rfl⟩))⟩
  obtain ⟨v,hv1,hv2⟩:=hv;rw [hv1];have Ht:=Lib.hid (fun w hT=>tz_any M v w hT hv2);clear hv1 hv2 hc hp
  go_enter Tryz.func84,Tryz.ntmps84
  go_wp2_with (first|(go_at_call 100;refine (Ho.out _).mono ?_;rintro e w' ⟨rfl,rfl⟩)|(go_at_call 135;refine (Ht.out _ hT).mono ?_;rintro e w' ⟨rfl,rfl⟩))
  go_ret
  exact ⟨rfl,rfl⟩
 ·rw [if_neg h1] at hc;have hv:=beq_iff_eq.1 hc;rw [hv]
  have hne:((p:Int) != 1)=true:=by simp;omega
  clear hv hc hp h1
  go_enter Tryz.func84,Tryz.ntmps84
  go_wp2_with (go_at_call 100;refine (Ho.out _).mono ?_;rintro e w' ⟨rfl,rfl⟩)
  go_ret
  exact ⟨rfl,rfl⟩
end Go.Proofs.YtkeoflnmbcdmfaaGreatDoor
namespace Go.Proofs.YtkeoflnmbcdmfaaGreatDoor
open Go.ChangeShapes Go.WideShapes Go.ChangeAt Go.RowKit
def ICandidatesOf:Prop:=∀ (A:Option Addr) (c n B:Nat) (xs:List Int) (size:Int) (w:World),Rd w B A n xs->B<=w.heap.size->n<=1099511627776->
    Calls Tryz.prog 162 #[.slice A n c,.int .i64 size] w (RetSl w (candL xs size))
def IMasksValid:Prop:=∀ (A:Option Addr) (c n B:Nat) (xs:List Int) (size:Int) (w:World),Rd w B A n xs->B64 xs->B<=w.heap.size->n<=1099511627776->(-9223372036854775808<=size/\size<=9223372036854775807)->
    Calls Tryz.prog 83 #[.slice A n c,.int .i64 size] w fun e w'=>e=.returned (.bool (mvd xs size))/\Below w.heap.size w w'
def IMasksGrid:Prop:=∀ (A:Option Addr) (c n B:Nat) (xs:List Int) (size:Int) (w:World),Rd w B A n xs->B64 xs->Tz w->B<=w.heap.size->n<=1099511627776->(-9223372036854775808<=size/\size<=9223372036854775807)->
    Calls Tryz.prog 31 #[.slice A n c,.int .i64 size] w (RetSl w (mgL xs size))
theorem candL_length (xs:List Int) (size:Int):(candL xs size).length<=16:=by
 unfold candL
 split
 ·next h=>
  obtain ⟨h2,h4⟩:=gv_size h;have:=sq_bd h2 h4;have:=gv_len h;rw [mapTo_length];omega
 ·simp
theorem mgL_length (xs:List Int) (size:Int):(mgL xs size).length<=16:=by
 unfold mgL
 split
 ·next h=>rw [mapTo_length];exact (mvd_at h).2.2.1
 ·simp
end Go.Proofs.YtkeoflnmbcdmfaaGreatDoor
namespace Go.Proofs.YtkeoflnmbcdmfaaGreatDoor
open Go.ChangeShapes Go.WideShapes Go.ChangeAt Go.RowKit
theorem maskValid_any (x:Int) (s:Nat) (w:World) (hs:s∈[2,3,4]) (hx: -9223372036854775808<=x/\x<=9223372036854775807):
 Calls Tryz.prog 134 #[.int .i64 x,.int .i64 s] w fun e w'=>e=.returned (.bool (mkOk ((2:Int)^(s+1)-2) x))/\w=w':=by
 have hs4:s<=4:=by simp at hs;omega
 have ha:=andNot_ok x s hs4 hx;obtain ⟨m,hm⟩:∃ m,2^(s+1)-2=m:=⟨_,rfl⟩;rw [hm] at ha
 go_enter Tryz.func134,Tryz.ntmps134
 go_wp2_with (go_at_call 133;refine (allValues_any s hs _).mono ?_;rw [hm];rintro e w' ⟨rfl,rfl⟩)
 go_ret
 exact ⟨by rw [<- ha];rfl,rfl⟩
theorem implMasksValid:IMasksValid:=by
 intro A c n B xs size w h hx64 hB hm hsz;have hlen:=Lib.hid h.1;cases hs:inr size 2 4
 ·have HL:=Lib.hid (show mvd xs size=false by simp [mvd,hs])
  go_enter Tryz.func83,Tryz.ntmps83
  go_wp2_with (go_at_call 67;refine (sizeValid_any _ _).mono ?_;rintro e w' ⟨rfl,rfl⟩)
  go_ret
  exact ⟨by rw [HL.out];rfl,Below.refl _ _⟩
 ·obtain ⟨h2,h4⟩:=inr_t hs;have hw:=sq_wrap h2 h4;cases hsq:((n:Int)==size*size)
  ·have HL:=Lib.hid (show mvd xs size=false by simp only [mvd,hlen.out,hsq];simp);have hsq2:((n:Int) != wrap64 (size*size))=true:=(by rw [hw,bne,hsq];rfl);clear hw hsq
   go_enter Tryz.func83,Tryz.ntmps83
   go_wp2_with (go_at_call 67;refine (sizeValid_any _ _).mono ?_;rintro e w' ⟨rfl,rfl⟩)
   go_ret
   exact ⟨by rw [HL.out];rfl,Below.refl _ _⟩
  ·obtain ⟨s,rfl⟩:=Int.eq_ofNat_of_zero_le (by omega:0<=size)
   have hsm:s∈[2,3,4]:=by
    have:s=2\/s=3\/s=4:=(by omega)
    simpa using this
   have HL:=Lib.hid (show mvd xs s=xs.all (mkOk ((2:Int)^(s+1)-2)) by simp only [mvd,hlen.out,hsq,hs,Int.toNat_natCast,Bool.true_and]);have hsq2:((n:Int) != wrap64 ((s:Int)*s))=false:=(by rw [hw,bne,hsq];rfl);clear hw hsq
   go_enter Tryz.func83,Tryz.ntmps83
   go_wp2_with (go_at_call 67;refine (sizeValid_any _ _).mono ?_;rintro e w' ⟨rfl,rfl⟩)
   go_loop [20] (fun i=>∃ k:Nat,k<=n/\i=.int .i64 k/\Hid (allTo (mkOk ((2:Int)^(s+1)-2)) xs k)) (fun i=>n-(intOf i).toNat)
   case atStart=>exact ⟨0,Nat.zero_le _,rfl,Lib.hid (fun j hj=>absurd hj (by omega))⟩
   case round=>
    obtain ⟨k,hk,rfl,hall⟩:=hrel
    by_cases hlt:k<n
    ·obtain ⟨b,off,rfl,hb,hck⟩:=h.at_ hlt;cases hok:mkOk ((2:Int)^(s+1)-2) (nth xs k)
     ·have Hf:=Lib.hid (show mvd xs s=false by rw [HL.out];exact all_not hlen.out hlt hok)
      go_wp2_with (go_at_call 134;refine (maskValid_any (nth xs k) s _ hsm (hx64 k)).mono ?_;rw [hok];rintro e w' ⟨rfl,rfl⟩)
      go_ret
      exact ⟨by rw [Hf.out];rfl,Below.refl _ _⟩
     ·have hn2:=Lib.hid (allTo_succ hall.out hok)
      go_wp2_with (go_at_call 134;refine (maskValid_any (nth xs k) s _ hsm (hx64 k)).mono ?_;rw [hok];rintro e w' ⟨rfl,rfl⟩)
      go_round
      case rel=>exact ⟨k+1,by omega,by go_num,hn2⟩
      case measure=>simp [intOf];omega
    ·obtain rfl:k=n:=by omega
     have Hf:=Lib.hid (show mvd xs s=true by rw [HL.out];exact allTo_all hall.out hlen.out)
     go_wp2
     go_ret
     exact ⟨by rw [Hf.out];rfl,Below.refl _ _⟩
end Go.Proofs.YtkeoflnmbcdmfaaGreatDoor
set_option maxRecDepth 8000
namespace Go.Proofs.YtkeoflnmbcdmfaaGreatDoor
open Go.ChangeShapes Go.WideShapes Go.ChangeAt Go.RowKit
theorem pow_int (v:Nat):((2:Int)^v)=((2^v:Nat):Int):=by simp
theorem and_pow (a v:Nat) (ha:a<32) (hv:v<=4):(bits .and .i64 (a:Int) (wrap64 (2^v)) != 0)=a.testBit v:=by
 have hlt:2^v<2^5:=Nat.pow_lt_pow_right (by omega) (by omega)
 have hb:(a&&&2^v)=(a.testBit v).toNat*2^v:=by
  have:v=0\/v=1\/v=2\/v=3\/v=4:=by omega
  have key:∀ a,a<32->∀ v,v<5->(a&&&2^v)=(a.testBit v).toNat*2^v:=by decide
  exact key a ha v (by omega)
 have hp0:0<2^v:=Nat.two_pow_pos v;rw [pow_int]
 generalize 2^v=p at*
 rw [IntWalk.wrap64_in _ ⟨by omega,by omega⟩]
 have h:bits .and .i64 (a:Int) (p:Int)=((a&&&p:Nat):Int):=by
  have hx:a&&&p<=a:=Nat.and_le_left
  show IntKind.i64.wrap ((BitVec.ofInt 64 (a:Int)&&&BitVec.ofInt 64 (p:Int)).toNat:Int)=_
  rw [BitVec.toNat_and,ofInt_i64 a (by omega),ofInt_i64 p (by omega),IntKind.wrap_i64];omega
 rw [h,hb];cases a.testBit v
 ·simp
 ·simp;omega
theorem and_pow0 (a v:Nat) (ha:a<32) (hv:v<=4):(bits .and .i64 (a:Int) (wrap64 (2^v))==0)= !a.testBit v:=by
 have h:=and_pow a v ha hv;rw [<- h]
 simp [bne]
end Go.Proofs.YtkeoflnmbcdmfaaGreatDoor
set_option maxRecDepth 8000
namespace Go.Proofs.YtkeoflnmbcdmfaaGreatDoor
open Go.ChangeShapes Go.WideShapes Go.ChangeAt Go.RowKit
def mcTo (m:List Int):Nat->Nat
 |0=>0
 |k+1=>mcTo m k+(maskVals (nth m k)).length
def mcI (m:List Int) (s:Int):Int:=if mvd m s=true then (mcTo m m.length:Nat) else -1
theorem mcTo_le (m:List Int) (k:Nat):mcTo m k<=4*k:=by
 induction k with
 |zero=>exact Nat.le_refl _
 |succ k ih=>have:=maskVals_length (nth m k);simp only [mcTo];omega
theorem specMasksCount (A:Option Addr) (c n B:Nat) (m:List Int) (s:Int) (w:World) (h:Rd w B A n m) (hB:B<=w.heap.size) (hm:n<=1099511627776) (hsb: -9223372036854775808<=s/\s<=9223372036854775807):
 Calls Tryz.prog 99 #[.slice A n c,.int .i64 s] w fun e w'=>e=.returned (.int .i64 (mcI m s))/\Below w.heap.size w w':=by
 have hlen:=Lib.hid h.1;have HV:=Lib.hid (specMasksValid A c n B m s w h hB hm hsb);cases hv:mvd m s
 ·have HL:=Lib.hid (show mcI m s= -1 by simp [mcI,hv])
  go_enter Tryz.func99,Tryz.ntmps99
  go_wp2_with (go_at_call 127;refine HV.out.mono ?_;rintro e w1 ⟨rfl,hb1⟩;rw [hv])
  go_ret
  exact ⟨by rw [HL.out];rfl,hb1⟩
 ·have HL:=Lib.hid (show mcI m s=(mcTo m n:Nat) by rw [mcI,if_pos hv,hlen.out]);obtain ⟨_,_,hn16,hrng⟩:=mvd_at hv;rw [hlen.out] at hn16 hrng;have Hrng:=Lib.hid hrng;clear hrng
  go_enter Tryz.func99,Tryz.ntmps99
  go_wp2_with (go_at_call 127;refine HV.out.mono ?_;rintro e w1 ⟨rfl,hb1⟩;rw [hv])
  go_loopw [5,6] (fun q i wr=>∃ k:Nat,k<=n/\i=.int .i64 k/\q=.int .i64 (mcTo m k:Nat)/\Below w.heap.size w wr) (fun _ i _=>n-(intOf i).toNat)
  case atStart=>exact ⟨0,Nat.zero_le _,rfl,rfl,hb1⟩
  case round=>
   obtain ⟨k,hk,rfl,rfl,hb⟩:=hrel;have hle:=mcTo_le m k
   by_cases hlt:k<n
   ·obtain ⟨b,off,rfl,hbB,hck⟩:=(h.below (hb.mono hB)).at_ hlt;obtain ⟨x0,x1,_⟩:=Hrng.out k hlt;have HM:=Lib.hid (fun w'=>specMaskValues (nth m k) w' (by omega));have hl4:=maskVals_length (nth m k);have Hs:=Lib.hid (show mcTo m (k+1)=mcTo m k+(maskVals (nth m k)).length from rfl);obtain ⟨l,hl⟩:∃ l,(maskVals (nth m k)).length=l:=⟨_,rfl⟩;rw [hl] at Hs hl4;have Hl:=Lib.hid hl;clear x0 x1 hl
    go_wp2_with (go_at_call 129;refine (HM.out _).mono ?_;rintro e w3 ⟨A3,c3,rfl,_,hb3⟩;rw [Hl.out])
    go_roundw
    case rel=>exact ⟨k+1,by omega,by go_num,by rw [Hs.out];simp,step hb hb3⟩
    case measure=>simp [intOf];omega
   ·obtain rfl:k=n:=by omega
    go_wp2
    go_ret
    exact ⟨by rw [HL.out];rfl,hb⟩
def inMask (m g:List Int) (k:Nat):Bool:=(nth m k).toNat.testBit (nth g k).toNat
def mhB (m:List Int) (s:Int) (g:List Int):Bool:=mvd m s&&gv g s&&(List.range g.length).all (inMask m g)
theorem all_stop {f:Nat->Bool} {n k:Nat} (hk:k<n) (h:f k=false):(List.range n).all f=false:=by
 rw [List.all_eq_false];exact ⟨k,List.mem_range.2 hk,by simp [h]⟩
theorem all_done {f:Nat->Bool} {n:Nat} (h:∀ k,k<n->f k=true):(List.range n).all f=true:=by
 rw [List.all_eq_true]
 exact fun k hk=>h k (List.mem_range.1 hk)
theorem shr_bit0 (M v:Nat):((((M:Nat):Int)/2^v).tmod 2==0)= !M.testBit v:=by
 have h:=shr_bit M v;have h0:(0:Int)<=((M:Nat):Int)/2^v:=Int.ediv_nonneg (by omega) (Int.le_of_lt (Int.pow_pos (by decide)));rw [Int.tmod_eq_emod_of_nonneg h0] at h ⊢;rw [<- h,Bool.eq_iff_iff];simp only [beq_iff_eq,Bool.not_eq_true',beq_eq_false_iff_ne];omega
end Go.Proofs.YtkeoflnmbcdmfaaGreatDoor
set_option maxRecDepth 8000
namespace Go.Proofs.YtkeoflnmbcdmfaaGreatDoor
open Go.ChangeShapes Go.WideShapes Go.ChangeAt Go.RowKit
end Go.Proofs.YtkeoflnmbcdmfaaGreatDoor
set_option maxRecDepth 8000
namespace Go.Proofs.YtkeoflnmbcdmfaaGreatDoor
open Go.ChangeShapes Go.WideShapes Go.ChangeAt Go.RowKit
theorem specL6Copy (A:Option Addr) (n c B:Nat) (xs:List Int) (w:World) (h:Rd w B A n xs) (hB:B<=w.heap.size) (hm:n<=1099511627776):
 Calls Tryz.prog 128 #[.slice A n c] w fun e w'=>∃ A' c',e=.returned (.slice A' n c')/\Ow w' w.heap.size A' n c' xs/\Below w.heap.size w w':=by
 have hb0:Below w.heap.size w (w.alloc (.cells #[] 3)):=(Below.refl _ _).alloc (Nat.le_refl _) _;have HO:=Lib.hid (Ow.made0 w w.heap.size (Nat.le_refl _));have HR:=Lib.hid (h.below (hb0.mono hB))
 have hsO:w.heap.size<=(w.alloc (.cells #[] 3)).heap.size:=by simp
 go_enter Tryz.func128,Tryz.ntmps128
 go_wp2_with (at_builtin;(refine push_new rfl (.tmp 3) (.tmp 4) rfl w.heap.size (some ⟨w.heap.size,0,none⟩) A n c B xs rfl rfl HO.out HR.out hm hsO ?_);intro A1 c1 w1 ho1 hg1;have hb1:=hb0.grown hg1 hb0.size (fun k hk=>HO.out.own_lo k hk))
 go_ret
 exact ⟨_,_,rfl,ho1,hb1⟩
def startC (gi:List Int) (s:Nat) (j:Nat):Int:=if 0<nth gi j then 2^(nth gi j).toNat else 2^(s+1)-2
def startL (s:Int) (gi:List Int) (rs:List RuleM) (n:Nat):List Int:=if pvB s gi rs=true then mapTo (startC gi s.toNat) n else []
set_option maxHeartbeats 2000000 in
theorem specStartMasks (s:Int) (Ag:Option Addr) (n cg Bg:Nat) (gi:List Int) (Ar:Option Addr) (nr cr Br:Nat) (rs:List RuleM) (w:World) (hp:PGs w s Ag n cg Bg gi Ar nr cr Br rs):
 Calls Tryz.prog 76 #[.agg #[.int .i64 s,.slice Ag n cg,.slice Ar nr cr]] w (RetSl w (startL s gi rs n)):=by
 have hx0:=pbox_new w s Ag n cg Ar nr cr 26;have hb0:Below w.heap.size w (w.alloc (.cells #[.int .i64 s,.slice Ag n cg,.slice Ar nr cr] 26)):=(Below.refl _ _).alloc (Nat.le_refl _) _
 have hs0:w.heap.size<(w.alloc (.cells #[.int .i64 s,.slice Ag n cg,.slice Ar nr cr] 26)).heap.size:=by simp
 have HP:=Lib.hid (fun w' (hb:Below w.heap.size w w')=>specPuzzleValid s Ag n cg Bg gi Ar nr cr Br rs w' (hp.below hb).g (hp.below hb).gB hp.gm (hp.below hb).r (hp.below hb).rB hp.rm);have hlen:=Lib.hid hp.g.1;have hm:=hp.gm;cases hv:pvB s gi rs
 ·have HL:=Lib.hid (show startL s gi rs n=[] by simp [startL,hv])
  go_enter Tryz.func76,Tryz.ntmps76
  go_wp2
  obtain ⟨W0,hW0⟩:∃ W0,W0=w.alloc (.cells #[.int .i64 s,.slice Ag n cg,.slice Ar nr cr] 26):=⟨_,rfl⟩;rw [<- hW0] at hx0 hb0 hs0;rw [<- hW0]
  have hsW:W0.heap.size=w.heap.size+1:=by rw [hW0];simp
  clear hW0;have hb1:Below W0.heap.size W0 (W0.alloc (.cells #[] 3)):=(Below.refl _ _).alloc (Nat.le_refl _) _;have hO:=Ow.made0 W0 W0.heap.size (Nat.le_refl _);obtain ⟨c0,c1,c2⟩:=hx0.below hs0 hb1;have hb1':=step hb0 hb1;rw [hsW] at hO
  go_loopw [3,4] (fun v i wr=>v=.slice (some ⟨w.heap.size+1,0,none⟩) 0 0/\i=.int .i64 0/\wr=W0.alloc (.cells #[] 3)) (fun _ _ _=>0)
  case atStart=>exact ⟨by first|rfl|rw [hsW],rfl,rfl⟩
  case round=>
   obtain ⟨rfl,rfl,rfl⟩:=hrel
   by_cases hlt:0<n
   ·have hlt':(0:Int)<(n:Int):=(by omega)
    go_wp2_with (go_at_call 25;refine (HP.out _ hb1').mono ?_;rintro e w1 ⟨rfl,hb2⟩;rw [hv])
    go_ret
    rw [HL.out];exact ⟨_,_,rfl,((show Ow _ (w.heap.size+1) _ 0 0 [] from hO).below hb2).mono (by omega),step hb1' hb2⟩
   ·obtain rfl:n=0:=by omega
    go_wp2
    go_ret
    rw [HL.out];exact ⟨_,_,rfl,(show Ow _ (w.heap.size+1) _ 0 0 [] from hO).mono (by omega),hb1'⟩
 ·obtain ⟨t,hst,hs,hn',hn16,hok'⟩:=pv_grid hv hp.g.1
  have hs3:s=2\/s=3\/s=4:=by rw [hst];simp at hs;omega
  rw [<- hst] at hok';have hok:=Lib.hid hok';clear hn' hok' hst hs
  rcases hs3 with rfl|rfl|rfl
  ·have HL:=Lib.hid (show startL 2 gi rs n=mapTo (startC gi 2) n by simp [startL,hv])
   go_enter Tryz.func76,Tryz.ntmps76
   go_wp2
   obtain ⟨W0,hW0⟩:∃ W0,W0=w.alloc (.cells #[.int .i64 2,.slice Ag n cg,.slice Ar nr cr] 26):=⟨_,rfl⟩;rw [<- hW0] at hx0 hb0 hs0;rw [<- hW0];have hsW:W0.heap.size=w.heap.size+1:=(by rw [hW0];simp);clear hW0;have hb1:Below W0.heap.size W0 (W0.alloc (.cells #[] 3)):=(Below.refl _ _).alloc (Nat.le_refl _) _;have hO:=Ow.made0 W0 W0.heap.size (Nat.le_refl _)
   go_loopw [3,4] (fun v i wr=>∃ (u:Nat) (A':Option Addr) (c':Nat),u<=n/\i=.int .i64 u/\v=.slice A' u c'/\Ow wr W0.heap.size A' u c' (mapTo (startC gi 2) u)/\Below W0.heap.size W0 wr) (fun _ i _=>n-(intOf i).toNat)
   case atStart=>exact ⟨0,_,_,Nat.zero_le _,rfl,by first|rfl|rw [hsW],hO,hb1⟩
   case round=>
    obtain ⟨u,A',c',hu,rfl,rfl,ho,hb⟩:=hrel;obtain ⟨c0,c1,c2⟩:=hx0.below hs0 hb
    by_cases hlt:u<n
    ·have hbw:=step hb0 hb;have hsw:=hb.size;have hlow:W0.heap.size<=wr.heap.size:=hsw;obtain ⟨b,off,hA,hbB,hck⟩:=(hp.below hbw).g.at_ hlt;subst hA;have hbwr:b<wr.heap.size:=Nat.lt_of_lt_of_le hbB (hp.below hbw).gB;have hu1:u<=1099511627776:=(by omega);have hx4:=hok.out u hlt
     have hcase:nth gi u=0\/nth gi u=1\/nth gi u=2\/nth gi u=3\/nth gi u=4:=by
      have:(0:Int)<=0:=(by omega);omega
     have hwr0:w.heap.size<wr.heap.size:=(by omega)
     rcases hcase with h|h|h|h|h
     ·rw [h] at hck;have hq:startC gi 2 u=6:=(by simp [startC,h]);clear h
      go_wp2_with (first
       |(go_at_call 25;refine (HP.out _ hbw).mono ?_;rintro e w1 ⟨rfl,hb2⟩;rw [hv];obtain ⟨d0,d1,d2⟩:=PBox.below ⟨c0,c1,c2⟩ hwr0 hb2;have hck1:=(hb2.cell (p:=⟨b,off+u,none⟩) hbwr).trans hck;have ho2:=ho.below hb2;have hs2:=Nat.le_trans hlow hb2.size)
       |(at_builtin;refine push_int rfl (.tmp 32) (.tmp 38) rfl W0.heap.size A' u c' (mapTo (startC gi 2) u) _ rfl rfl ho2 hu1 hs2 ?_;intro A5 c5 w5 ho5 hg5))
      go_roundw
      case rel=>exact ⟨u+1,_,_,by omega,by go_num,rfl,by rw [mapTo_succ,hq];exact ho5,push_below (hb.trans (hb2.mono hlow)) ho2 (Nat.le_refl _) hs2 hg5⟩
      case measure=>simp [intOf];omega
     ·rw [h] at hck;have hq:startC gi 2 u=2:=(by simp [startC,h]);clear h
      go_wp2_with (first
       |(go_at_call 25;refine (HP.out _ hbw).mono ?_;rintro e w1 ⟨rfl,hb2⟩;rw [hv];obtain ⟨d0,d1,d2⟩:=PBox.below ⟨c0,c1,c2⟩ hwr0 hb2;have hck1:=(hb2.cell (p:=⟨b,off+u,none⟩) hbwr).trans hck;have ho2:=ho.below hb2;have hs2:=Nat.le_trans hlow hb2.size)
       |(at_builtin;refine push_int rfl (.tmp 23) (.tmp 30) rfl W0.heap.size A' u c' (mapTo (startC gi 2) u) _ rfl rfl ho2 hu1 hs2 ?_;intro A5 c5 w5 ho5 hg5))
      go_roundw
      case rel=>exact ⟨u+1,_,_,by omega,by go_num,rfl,by rw [mapTo_succ,hq];exact ho5,push_below (hb.trans (hb2.mono hlow)) ho2 (Nat.le_refl _) hs2 hg5⟩
      case measure=>simp [intOf];omega
     ·rw [h] at hck;have hq:startC gi 2 u=4:=(by simp [startC,h]);clear h
      go_wp2_with (first
       |(go_at_call 25;refine (HP.out _ hbw).mono ?_;rintro e w1 ⟨rfl,hb2⟩;rw [hv];obtain ⟨d0,d1,d2⟩:=PBox.below ⟨c0,c1,c2⟩ hwr0 hb2;have hck1:=(hb2.cell (p:=⟨b,off+u,none⟩) hbwr).trans hck;have ho2:=ho.below hb2;have hs2:=Nat.le_trans hlow hb2.size)
       |(at_builtin;refine push_int rfl (.tmp 23) (.tmp 30) rfl W0.heap.size A' u c' (mapTo (startC gi 2) u) _ rfl rfl ho2 hu1 hs2 ?_;intro A5 c5 w5 ho5 hg5))
      go_roundw
      case rel=>exact ⟨u+1,_,_,by omega,by go_num,rfl,by rw [mapTo_succ,hq];exact ho5,push_below (hb.trans (hb2.mono hlow)) ho2 (Nat.le_refl _) hs2 hg5⟩
      case measure=>simp [intOf];omega
     ·rw [h] at hck;have hq:startC gi 2 u=8:=(by simp [startC,h]);clear h
      go_wp2_with (first
       |(go_at_call 25;refine (HP.out _ hbw).mono ?_;rintro e w1 ⟨rfl,hb2⟩;rw [hv];obtain ⟨d0,d1,d2⟩:=PBox.below ⟨c0,c1,c2⟩ hwr0 hb2;have hck1:=(hb2.cell (p:=⟨b,off+u,none⟩) hbwr).trans hck;have ho2:=ho.below hb2;have hs2:=Nat.le_trans hlow hb2.size)
       |(at_builtin;refine push_int rfl (.tmp 23) (.tmp 30) rfl W0.heap.size A' u c' (mapTo (startC gi 2) u) _ rfl rfl ho2 hu1 hs2 ?_;intro A5 c5 w5 ho5 hg5))
      go_roundw
      case rel=>exact ⟨u+1,_,_,by omega,by go_num,rfl,by rw [mapTo_succ,hq];exact ho5,push_below (hb.trans (hb2.mono hlow)) ho2 (Nat.le_refl _) hs2 hg5⟩
      case measure=>simp [intOf];omega
     ·rw [h] at hck;have hq:startC gi 2 u=16:=(by simp [startC,h]);clear h
      go_wp2_with (first
       |(go_at_call 25;refine (HP.out _ hbw).mono ?_;rintro e w1 ⟨rfl,hb2⟩;rw [hv];obtain ⟨d0,d1,d2⟩:=PBox.below ⟨c0,c1,c2⟩ hwr0 hb2;have hck1:=(hb2.cell (p:=⟨b,off+u,none⟩) hbwr).trans hck;have ho2:=ho.below hb2;have hs2:=Nat.le_trans hlow hb2.size)
       |(at_builtin;refine push_int rfl (.tmp 23) (.tmp 30) rfl W0.heap.size A' u c' (mapTo (startC gi 2) u) _ rfl rfl ho2 hu1 hs2 ?_;intro A5 c5 w5 ho5 hg5))
      go_roundw
      case rel=>exact ⟨u+1,_,_,by omega,by go_num,rfl,by rw [mapTo_succ,hq];exact ho5,push_below (hb.trans (hb2.mono hlow)) ho2 (Nat.le_refl _) hs2 hg5⟩
      case measure=>simp [intOf];omega
    ·obtain rfl:u=n:=by omega
     go_wp2
     go_ret
     rw [HL.out];exact retSl_mk (ho.mono (by omega)) (step hb0 hb)
  ·have HL:=Lib.hid (show startL 3 gi rs n=mapTo (startC gi 3) n by simp [startL,hv])
   go_enter Tryz.func76,Tryz.ntmps76
   go_wp2
   obtain ⟨W0,hW0⟩:∃ W0,W0=w.alloc (.cells #[.int .i64 3,.slice Ag n cg,.slice Ar nr cr] 26):=⟨_,rfl⟩;rw [<- hW0] at hx0 hb0 hs0;rw [<- hW0];have hsW:W0.heap.size=w.heap.size+1:=(by rw [hW0];simp);clear hW0;have hb1:Below W0.heap.size W0 (W0.alloc (.cells #[] 3)):=(Below.refl _ _).alloc (Nat.le_refl _) _;have hO:=Ow.made0 W0 W0.heap.size (Nat.le_refl _)
   go_loopw [3,4] (fun v i wr=>∃ (u:Nat) (A':Option Addr) (c':Nat),u<=n/\i=.int .i64 u/\v=.slice A' u c'/\Ow wr W0.heap.size A' u c' (mapTo (startC gi 3) u)/\Below W0.heap.size W0 wr) (fun _ i _=>n-(intOf i).toNat)
   case atStart=>exact ⟨0,_,_,Nat.zero_le _,rfl,by first|rfl|rw [hsW],hO,hb1⟩
   case round=>
    obtain ⟨u,A',c',hu,rfl,rfl,ho,hb⟩:=hrel;obtain ⟨c0,c1,c2⟩:=hx0.below hs0 hb
    by_cases hlt:u<n
    ·have hbw:=step hb0 hb;have hsw:=hb.size;have hlow:W0.heap.size<=wr.heap.size:=hsw;obtain ⟨b,off,hA,hbB,hck⟩:=(hp.below hbw).g.at_ hlt;subst hA;have hbwr:b<wr.heap.size:=Nat.lt_of_lt_of_le hbB (hp.below hbw).gB;have hu1:u<=1099511627776:=(by omega);have hx4:=hok.out u hlt
     have hcase:nth gi u=0\/nth gi u=1\/nth gi u=2\/nth gi u=3\/nth gi u=4:=by
      have:(0:Int)<=0:=(by omega);omega
     have hwr0:w.heap.size<wr.heap.size:=(by omega)
     rcases hcase with h|h|h|h|h
     ·rw [h] at hck;have hq:startC gi 3 u=14:=(by simp [startC,h]);clear h
      go_wp2_with (first
       |(go_at_call 25;refine (HP.out _ hbw).mono ?_;rintro e w1 ⟨rfl,hb2⟩;rw [hv];obtain ⟨d0,d1,d2⟩:=PBox.below ⟨c0,c1,c2⟩ hwr0 hb2;have hck1:=(hb2.cell (p:=⟨b,off+u,none⟩) hbwr).trans hck;have ho2:=ho.below hb2;have hs2:=Nat.le_trans hlow hb2.size)
       |(at_builtin;refine push_int rfl (.tmp 32) (.tmp 38) rfl W0.heap.size A' u c' (mapTo (startC gi 3) u) _ rfl rfl ho2 hu1 hs2 ?_;intro A5 c5 w5 ho5 hg5))
      go_roundw
      case rel=>exact ⟨u+1,_,_,by omega,by go_num,rfl,by rw [mapTo_succ,hq];exact ho5,push_below (hb.trans (hb2.mono hlow)) ho2 (Nat.le_refl _) hs2 hg5⟩
      case measure=>simp [intOf];omega
     ·rw [h] at hck;have hq:startC gi 3 u=2:=(by simp [startC,h]);clear h
      go_wp2_with (first
       |(go_at_call 25;refine (HP.out _ hbw).mono ?_;rintro e w1 ⟨rfl,hb2⟩;rw [hv];obtain ⟨d0,d1,d2⟩:=PBox.below ⟨c0,c1,c2⟩ hwr0 hb2;have hck1:=(hb2.cell (p:=⟨b,off+u,none⟩) hbwr).trans hck;have ho2:=ho.below hb2;have hs2:=Nat.le_trans hlow hb2.size)
       |(at_builtin;refine push_int rfl (.tmp 23) (.tmp 30) rfl W0.heap.size A' u c' (mapTo (startC gi 3) u) _ rfl rfl ho2 hu1 hs2 ?_;intro A5 c5 w5 ho5 hg5))
      go_roundw
      case rel=>exact ⟨u+1,_,_,by omega,by go_num,rfl,by rw [mapTo_succ,hq];exact ho5,push_below (hb.trans (hb2.mono hlow)) ho2 (Nat.le_refl _) hs2 hg5⟩
      case measure=>simp [intOf];omega
     ·rw [h] at hck;have hq:startC gi 3 u=4:=(by simp [startC,h]);clear h
      go_wp2_with (first
       |(go_at_call 25;refine (HP.out _ hbw).mono ?_;rintro e w1 ⟨rfl,hb2⟩;rw [hv];obtain ⟨d0,d1,d2⟩:=PBox.below ⟨c0,c1,c2⟩ hwr0 hb2;have hck1:=(hb2.cell (p:=⟨b,off+u,none⟩) hbwr).trans hck;have ho2:=ho.below hb2;have hs2:=Nat.le_trans hlow hb2.size)
       |(at_builtin;refine push_int rfl (.tmp 23) (.tmp 30) rfl W0.heap.size A' u c' (mapTo (startC gi 3) u) _ rfl rfl ho2 hu1 hs2 ?_;intro A5 c5 w5 ho5 hg5))
      go_roundw
      case rel=>exact ⟨u+1,_,_,by omega,by go_num,rfl,by rw [mapTo_succ,hq];exact ho5,push_below (hb.trans (hb2.mono hlow)) ho2 (Nat.le_refl _) hs2 hg5⟩
      case measure=>simp [intOf];omega
     ·rw [h] at hck;have hq:startC gi 3 u=8:=(by simp [startC,h]);clear h
      go_wp2_with (first
       |(go_at_call 25;refine (HP.out _ hbw).mono ?_;rintro e w1 ⟨rfl,hb2⟩;rw [hv];obtain ⟨d0,d1,d2⟩:=PBox.below ⟨c0,c1,c2⟩ hwr0 hb2;have hck1:=(hb2.cell (p:=⟨b,off+u,none⟩) hbwr).trans hck;have ho2:=ho.below hb2;have hs2:=Nat.le_trans hlow hb2.size)
       |(at_builtin;refine push_int rfl (.tmp 23) (.tmp 30) rfl W0.heap.size A' u c' (mapTo (startC gi 3) u) _ rfl rfl ho2 hu1 hs2 ?_;intro A5 c5 w5 ho5 hg5))
      go_roundw
      case rel=>exact ⟨u+1,_,_,by omega,by go_num,rfl,by rw [mapTo_succ,hq];exact ho5,push_below (hb.trans (hb2.mono hlow)) ho2 (Nat.le_refl _) hs2 hg5⟩
      case measure=>simp [intOf];omega
     ·rw [h] at hck;have hq:startC gi 3 u=16:=(by simp [startC,h]);clear h
      go_wp2_with (first
       |(go_at_call 25;refine (HP.out _ hbw).mono ?_;rintro e w1 ⟨rfl,hb2⟩;rw [hv];obtain ⟨d0,d1,d2⟩:=PBox.below ⟨c0,c1,c2⟩ hwr0 hb2;have hck1:=(hb2.cell (p:=⟨b,off+u,none⟩) hbwr).trans hck;have ho2:=ho.below hb2;have hs2:=Nat.le_trans hlow hb2.size)
       |(at_builtin;refine push_int rfl (.tmp 23) (.tmp 30) rfl W0.heap.size A' u c' (mapTo (startC gi 3) u) _ rfl rfl ho2 hu1 hs2 ?_;intro A5 c5 w5 ho5 hg5))
      go_roundw
      case rel=>exact ⟨u+1,_,_,by omega,by go_num,rfl,by rw [mapTo_succ,hq];exact ho5,push_below (hb.trans (hb2.mono hlow)) ho2 (Nat.le_refl _) hs2 hg5⟩
      case measure=>simp [intOf];omega
    ·obtain rfl:u=n:=by omega
     go_wp2
     go_ret
     rw [HL.out];exact retSl_mk (ho.mono (by omega)) (step hb0 hb)
  ·have HL:=Lib.hid (show startL 4 gi rs n=mapTo (startC gi 4) n by simp [startL,hv])
   go_enter Tryz.func76,Tryz.ntmps76
   go_wp2
   obtain ⟨W0,hW0⟩:∃ W0,W0=w.alloc (.cells #[.int .i64 4,.slice Ag n cg,.slice Ar nr cr] 26):=⟨_,rfl⟩;rw [<- hW0] at hx0 hb0 hs0;rw [<- hW0];have hsW:W0.heap.size=w.heap.size+1:=(by rw [hW0];simp);clear hW0;have hb1:Below W0.heap.size W0 (W0.alloc (.cells #[] 3)):=(Below.refl _ _).alloc (Nat.le_refl _) _;have hO:=Ow.made0 W0 W0.heap.size (Nat.le_refl _)
   go_loopw [3,4] (fun v i wr=>∃ (u:Nat) (A':Option Addr) (c':Nat),u<=n/\i=.int .i64 u/\v=.slice A' u c'/\Ow wr W0.heap.size A' u c' (mapTo (startC gi 4) u)/\Below W0.heap.size W0 wr) (fun _ i _=>n-(intOf i).toNat)
   case atStart=>exact ⟨0,_,_,Nat.zero_le _,rfl,by first|rfl|rw [hsW],hO,hb1⟩
   case round=>
    obtain ⟨u,A',c',hu,rfl,rfl,ho,hb⟩:=hrel;obtain ⟨c0,c1,c2⟩:=hx0.below hs0 hb
    by_cases hlt:u<n
    ·have hbw:=step hb0 hb;have hsw:=hb.size;have hlow:W0.heap.size<=wr.heap.size:=hsw;obtain ⟨b,off,hA,hbB,hck⟩:=(hp.below hbw).g.at_ hlt;subst hA;have hbwr:b<wr.heap.size:=Nat.lt_of_lt_of_le hbB (hp.below hbw).gB;have hu1:u<=1099511627776:=(by omega);have hx4:=hok.out u hlt
     have hcase:nth gi u=0\/nth gi u=1\/nth gi u=2\/nth gi u=3\/nth gi u=4:=by
      have:(0:Int)<=0:=(by omega);omega
     have hwr0:w.heap.size<wr.heap.size:=(by omega)
     rcases hcase with h|h|h|h|h
     ·rw [h] at hck;have hq:startC gi 4 u=30:=(by simp [startC,h]);clear h
      go_wp2_with (first
       |(go_at_call 25;refine (HP.out _ hbw).mono ?_;rintro e w1 ⟨rfl,hb2⟩;rw [hv];obtain ⟨d0,d1,d2⟩:=PBox.below ⟨c0,c1,c2⟩ hwr0 hb2;have hck1:=(hb2.cell (p:=⟨b,off+u,none⟩) hbwr).trans hck;have ho2:=ho.below hb2;have hs2:=Nat.le_trans hlow hb2.size)
       |(at_builtin;refine push_int rfl (.tmp 32) (.tmp 38) rfl W0.heap.size A' u c' (mapTo (startC gi 4) u) _ rfl rfl ho2 hu1 hs2 ?_;intro A5 c5 w5 ho5 hg5))
      go_roundw
      case rel=>exact ⟨u+1,_,_,by omega,by go_num,rfl,by rw [mapTo_succ,hq];exact ho5,push_below (hb.trans (hb2.mono hlow)) ho2 (Nat.le_refl _) hs2 hg5⟩
      case measure=>simp [intOf];omega
     ·rw [h] at hck;have hq:startC gi 4 u=2:=(by simp [startC,h]);clear h
      go_wp2_with (first
       |(go_at_call 25;refine (HP.out _ hbw).mono ?_;rintro e w1 ⟨rfl,hb2⟩;rw [hv];obtain ⟨d0,d1,d2⟩:=PBox.below ⟨c0,c1,c2⟩ hwr0 hb2;have hck1:=(hb2.cell (p:=⟨b,off+u,none⟩) hbwr).trans hck;have ho2:=ho.below hb2;have hs2:=Nat.le_trans hlow hb2.size)
       |(at_builtin;refine push_int rfl (.tmp 23) (.tmp 30) rfl W0.heap.size A' u c' (mapTo (startC gi 4) u) _ rfl rfl ho2 hu1 hs2 ?_;intro A5 c5 w5 ho5 hg5))
      go_roundw
      case rel=>exact ⟨u+1,_,_,by omega,by go_num,rfl,by rw [mapTo_succ,hq];exact ho5,push_below (hb.trans (hb2.mono hlow)) ho2 (Nat.le_refl _) hs2 hg5⟩
      case measure=>simp [intOf];omega
     ·rw [h] at hck;have hq:startC gi 4 u=4:=(by simp [startC,h]);clear h
      go_wp2_with (first
       |(go_at_call 25;refine (HP.out _ hbw).mono ?_;rintro e w1 ⟨rfl,hb2⟩;rw [hv];obtain ⟨d0,d1,d2⟩:=PBox.below ⟨c0,c1,c2⟩ hwr0 hb2;have hck1:=(hb2.cell (p:=⟨b,off+u,none⟩) hbwr).trans hck;have ho2:=ho.below hb2;have hs2:=Nat.le_trans hlow hb2.size)
       |(at_builtin;refine push_int rfl (.tmp 23) (.tmp 30) rfl W0.heap.size A' u c' (mapTo (startC gi 4) u) _ rfl rfl ho2 hu1 hs2 ?_;intro A5 c5 w5 ho5 hg5))
      go_roundw
      case rel=>exact ⟨u+1,_,_,by omega,by go_num,rfl,by rw [mapTo_succ,hq];exact ho5,push_below (hb.trans (hb2.mono hlow)) ho2 (Nat.le_refl _) hs2 hg5⟩
      case measure=>simp [intOf];omega
     ·rw [h] at hck;have hq:startC gi 4 u=8:=(by simp [startC,h]);clear h
      go_wp2_with (first
       |(go_at_call 25;refine (HP.out _ hbw).mono ?_;rintro e w1 ⟨rfl,hb2⟩;rw [hv];obtain ⟨d0,d1,d2⟩:=PBox.below ⟨c0,c1,c2⟩ hwr0 hb2;have hck1:=(hb2.cell (p:=⟨b,off+u,none⟩) hbwr).trans hck;have ho2:=ho.below hb2;have hs2:=Nat.le_trans hlow hb2.size)
       |(at_builtin;refine push_int rfl (.tmp 23) (.tmp 30) rfl W0.heap.size A' u c' (mapTo (startC gi 4) u) _ rfl rfl ho2 hu1 hs2 ?_;intro A5 c5 w5 ho5 hg5))
      go_roundw
      case rel=>exact ⟨u+1,_,_,by omega,by go_num,rfl,by rw [mapTo_succ,hq];exact ho5,push_below (hb.trans (hb2.mono hlow)) ho2 (Nat.le_refl _) hs2 hg5⟩
      case measure=>simp [intOf];omega
     ·rw [h] at hck;have hq:startC gi 4 u=16:=(by simp [startC,h]);clear h
      go_wp2_with (first
       |(go_at_call 25;refine (HP.out _ hbw).mono ?_;rintro e w1 ⟨rfl,hb2⟩;rw [hv];obtain ⟨d0,d1,d2⟩:=PBox.below ⟨c0,c1,c2⟩ hwr0 hb2;have hck1:=(hb2.cell (p:=⟨b,off+u,none⟩) hbwr).trans hck;have ho2:=ho.below hb2;have hs2:=Nat.le_trans hlow hb2.size)
       |(at_builtin;refine push_int rfl (.tmp 23) (.tmp 30) rfl W0.heap.size A' u c' (mapTo (startC gi 4) u) _ rfl rfl ho2 hu1 hs2 ?_;intro A5 c5 w5 ho5 hg5))
      go_roundw
      case rel=>exact ⟨u+1,_,_,by omega,by go_num,rfl,by rw [mapTo_succ,hq];exact ho5,push_below (hb.trans (hb2.mono hlow)) ho2 (Nat.le_refl _) hs2 hg5⟩
      case measure=>simp [intOf];omega
    ·obtain rfl:u=n:=by omega
     go_wp2
     go_ret
     rw [HL.out];exact retSl_mk (ho.mono (by omega)) (step hb0 hb)
end Go.Proofs.YtkeoflnmbcdmfaaGreatDoor
