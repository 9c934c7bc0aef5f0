import Derived.Test.YtlnmioijgclndaaGreatDoorFAPr
set_option maxRecDepth 8000
namespace Go.Proofs.YtlnmioijgclndaaGreatDoor
open Go.ChangeShapes Go.WideShapes Go.ChangeAt Go.RowKit
def cIn (S u i:Nat) (x:Int) (o:List Int):Nat->List Int
 |0=>o
 |k+1=>if lcN S u k≠i then (cIn S u i x o k).set (lcN S u k) (bits .andNot .i64 (nth (cIn S u i x o k) (lcN S u k)) x) else cIn S u i x o k
def clQ (S:Nat) (o:List Int) (p:Nat×Nat):List Int:=cIn S (S+p.1%S) p.1 (2^p.2) (cIn S (p.1/S) p.1 (2^p.2) o S) S
def sQ (m:List Int):Nat->List (Nat×Nat)
 |0=>[]
 |k+1=>if oneOf (maskVals (nth m k))=0 then sQ m k else sQ m k++[(k,(oneOf (maskVals (nth m k))).toNat)]
theorem cIn_len (S u i:Nat) (x:Int) (o:List Int) (k:Nat):(cIn S u i x o k).length=o.length:=by
 induction k with
 |zero=>rfl
 |succ k ih=>
  simp only [cIn]
  split
  ·rw [List.length_set,ih]
  ·exact ih
theorem clQ_len (S:Nat) (o:List Int) (p:Nat×Nat):(clQ S o p).length=o.length:=by unfold clQ;rw [cIn_len,cIn_len]
theorem sQ_len (m:List Int) (k:Nat):(sQ m k).length<=k:=by
 induction k with
 |zero=>exact Nat.le_refl _
 |succ k ih=>
  simp only [sQ]
  split
  ·omega
  ·simp;omega
def oneP (M:Nat):Bool:=if (bitsTo M 4).length=1 then (oneOf (bitsTo M 4)==1&&M==2)||(oneOf (bitsTo M 4)==2&&M==4)||(oneOf (bitsTo M 4)==3&&M==8)||(oneOf (bitsTo M 4)==4&&M==16) else oneOf (bitsTo M 4)==0
theorem oneP_all:∀ M,M<32->M%2=0->oneP M=true:=by decide +kernel
theorem mv_bits {M:Nat} (h:M<32) (he:M%2=0):maskVals (M:Int)=bitsTo M 4:=by
 simp only [maskVals];rw [if_pos (by simp only [mvOk,inr,Bool.and_eq_true,decide_eq_true_eq,beq_iff_eq];exact ⟨⟨by omega,by omega⟩,by rw [Int.tmod_eq_emod_of_nonneg (by omega)];omega⟩),Int.toNat_natCast]
theorem one_at {m:List Int} {s:Int} (hm:mvd m s=true) (k:Nat):((maskVals (nth m k)).length=1/\∃ v:Nat,1<=v/\v<=4/\oneOf (maskVals (nth m k))=v/\nth m k=2^v)\/((maskVals (nth m k)).length≠1/\oneOf (maskVals (nth m k))=0):=by
 obtain ⟨x0,x1,x2⟩:=mvd_nth hm k;obtain ⟨M,hM⟩:=Int.eq_ofNat_of_zero_le x0
 have he:M%2=0:=by rw [hM,Int.tmod_eq_emod_of_nonneg (by omega)] at x2;omega
 have h:=oneP_all M (by omega) he;rw [hM,mv_bits (by omega) he];unfold oneP at h
 split at h
 ·next hl=>
  refine .inl ⟨hl,?_⟩;simp only [Bool.or_eq_true,Bool.and_eq_true,beq_iff_eq] at h
  rcases h with ((⟨h1,h2⟩|⟨h1,h2⟩)|⟨h1,h2⟩)|⟨h1,h2⟩
  ·exact ⟨1,by omega,by omega,h1,by rw [h2];decide⟩
  ·exact ⟨2,by omega,by omega,h1,by rw [h2];decide⟩
  ·exact ⟨3,by omega,by omega,h1,by rw [h2];decide⟩
  ·exact ⟨4,by omega,by omega,h1,by rw [h2];decide⟩
 ·next hl=>exact .inr ⟨hl,beq_iff_eq.1 h⟩
theorem sQ_in {m:List Int} {s:Int} (hm:mvd m s=true) (k:Nat):∀ p∈sQ m k,p.1<k/\1<=p.2/\p.2<=4:=by
 induction k with
 |zero=>intro p hp;simp [sQ] at hp
 |succ k ih=>
  intro p hp;simp only [sQ] at hp
  split at hp
  ·have:=ih p hp;omega
  ·next hn=>
   rcases List.mem_append.1 hp with h|h
   ·have:=ih p h;omega
   ·rw [List.mem_singleton] at h;subst h
    rcases one_at hm k with ⟨_,v,h1,h2,h3,_⟩|⟨_,h0⟩
    ·rw [h3];simp;omega
    ·exact absurd h0 hn
def lineHas (S u p:Nat):Nat->Bool
 |0=>false
 |k+1=>lineHas S u p k||lcN S u k==p
def hasP (s:Nat):Bool:=(List.range (s*s)).all fun i=>(List.range (s*s)).all fun p=>lineHas s (i/s) p s==(p/s==i/s)&&lineHas s (s+i%s) p s==(p%s==i%s)
theorem hasP_all:hasP 2=true/\hasP 3=true/\hasP 4=true:=by decide +kernel
theorem has_at {s:Nat} (hs:s∈[2,3,4]) {i p:Nat} (hi:i<s*s) (hp:p<s*s):lineHas s (i/s) p s=(p/s==i/s)/\lineHas s (s+i%s) p s=(p%s==i%s):=by
 have h:hasP s=true:=by
  simp at hs
  rcases hs with rfl|rfl|rfl
  ·exact hasP_all.1
  ·exact hasP_all.2.1
  ·exact hasP_all.2.2
 unfold hasP at h;have:=List.all_eq_true.1 (List.all_eq_true.1 h i (List.mem_range.2 hi)) p (List.mem_range.2 hp);rw [Bool.and_eq_true,beq_iff_eq,beq_iff_eq] at this;exact this
theorem cIn_nth {o:List Int} {s u i:Nat} {x:Int} (hs:s∈[2,3,4]) (hu:u<2*s) (hl:o.length=s*s) (p:Nat) (K:Nat) (hK:K<=s):
 nth (cIn s u i x o K) p=if lineHas s u p K=true/\p≠i then bits .andNot .i64 (nth o p) x else nth o p:=by
 induction K with
 |zero=>simp [cIn,lineHas]
 |succ K ih=>
  have ih:=ih (by omega);simp only [cIn,lineHas,Bool.or_eq_true,beq_iff_eq];have hp:lcN s u K<s*s:=line_at hs hu K (by omega)
  by_cases e:lcN s u K=p
  ·have hno:lineHas s u p K=false:=by
    have hall:∀ j,j<=K->lineHas s u p j=false:=by
     intro j
     induction j with
     |zero=>intro _;rfl
     |succ j ihj=>
      intro hj;simp only [lineHas,Bool.or_eq_false_iff,beq_eq_false_iff_ne];refine ⟨ihj (by omega),fun e2=>?_⟩;have:=lc_inj hs (show j<s by omega) (show K<s by omega) (e2.trans e.symm);omega
    exact hall K (Nat.le_refl _)
   rw [if_neg (fun h=>by rw [hno] at h;cases h.1)] at ih
   by_cases hi:p=i
   ·rw [if_neg (by rw [e];exact fun h=>h hi),if_neg (fun h=>h.2 hi),ih]
   ·rw [if_pos (by rw [e];exact hi),if_pos ⟨.inr e,hi⟩,nth_set (by rw [cIn_len,hl];exact hp),if_pos e,e,ih]
  ·have h2:nth (if lcN s u K≠i then (cIn s u i x o K).set (lcN s u K) (bits .andNot .i64 (nth (cIn s u i x o K) (lcN s u K)) x) else cIn s u i x o K) p=nth (cIn s u i x o K) p:=by
    split
    ·rw [nth_set (by rw [cIn_len,hl];exact hp),if_neg e]
    ·rfl
   rw [h2,ih]
   by_cases hc:lineHas s u p K=true/\p≠i
   ·rw [if_pos hc,if_pos ⟨.inl hc.1,hc.2⟩]
   ·rw [if_neg hc,if_neg (fun h=>hc ⟨h.1.resolve_right e,h.2⟩)]
theorem nsIn_nth {m o:List Int} {s i:Nat} {p:Nat} (K:Nat) (hK:K<=o.length):nth (nsIn m s i o K) p=if p<K/\seesB s p i=true then bits .andNot .i64 (nth o p) (nth m i) else nth o p:=by
 induction K with
 |zero=>simp [nsIn]
 |succ K ih=>
  have ih:=ih (by omega);simp only [nsIn]
  by_cases e:K=p
  ·subst e;rw [if_neg (fun h=>absurd h.1 (by omega))] at ih
   by_cases hc:seesB s K i=true
   ·rw [if_pos hc,if_pos ⟨by omega,hc⟩,nth_set (by rw [nsIn_len];omega),if_pos rfl,ih]
   ·rw [if_neg hc,if_neg (fun h=>hc h.2),ih]
  ·have h2:nth (if seesB s K i=true then (nsIn m s i o K).set K (bits .andNot .i64 (nth (nsIn m s i o K) K) (nth m i)) else nsIn m s i o K) p=nth (nsIn m s i o K) p:=by
    split
    ·rw [nth_set (by rw [nsIn_len];omega),if_neg e]
    ·rfl
   rw [h2,ih]
   by_cases hc:p<K/\seesB s p i=true
   ·rw [if_pos hc,if_pos ⟨by omega,hc.2⟩]
   ·rw [if_neg hc,if_neg (fun h=>hc ⟨by omega,h.2⟩)]
theorem div_eq_of {s i p:Nat} (h1:p/s=i/s) (h2:p%s=i%s):p=i:=by
 have a:=Nat.div_add_mod p s;have b:=Nat.div_add_mod i s;rw [h1,h2] at a;omega
theorem clQ_is {m o:List Int} {s i v:Nat} (hs:s∈[2,3,4]) (hl:o.length=s*s) (hi:i<s*s) (hx:nth m i=2^v):clQ s o (i,v)=nsIn m s i o (s*s):=by
 have hs0:0<s:=by simp at hs;omega
 have hr:i/s<2*s:=by have:i/s<s:=Nat.div_lt_of_lt_mul hi;omega
 have hc:s+i%s<2*s:=by have:=Nat.mod_lt i hs0;omega
 apply ext_nth
 ·rw [clQ_len,nsIn_len]
 ·intro p hp;rw [clQ_len,hl] at hp;obtain ⟨e1,e2⟩:=has_at hs hi hp;rw [nsIn_nth _ (by rw [hl];exact Nat.le_refl _),hx];unfold clQ;simp only;rw [cIn_nth hs hc (by rw [cIn_len,hl]) p s (Nat.le_refl _),cIn_nth hs hr hl p s (Nat.le_refl _),e1,e2];simp only [seesB,Bool.and_eq_true,Bool.or_eq_true,beq_iff_eq,bne_iff_ne]
  by_cases hpi:p=i
  ·rw [if_neg (fun h=>h.2 hpi),if_neg (fun h=>h.2 hpi),if_neg (fun h=>h.2.1 hpi)]
  ·by_cases h1:p/s=i/s
   ·have h2:¬ p%s=i%s:=fun h2=>hpi (div_eq_of h1 h2)
    rw [if_neg (fun h=>h2 h.1),if_pos ⟨h1,hpi⟩,if_pos ⟨hp,hpi,.inl h1⟩]
   ·by_cases h2:p%s=i%s
    ·rw [if_pos ⟨h2,hpi⟩,if_neg (fun h=>h1 h.1),if_pos ⟨hp,hpi,.inr h2⟩]
    ·rw [if_neg (fun h=>h2 h.1),if_neg (fun h=>h1 h.1),if_neg (fun h=>h.2.2.elim h1 h2)]
theorem sQ_fold {m:List Int} {s:Nat} (hs:s∈[2,3,4]) (hm:mvd m s=true) (k:Nat) (hk:k<=s*s):(sQ m k).foldl (clQ s) m=nsTo m s (s*s) k:=by
 induction k with
 |zero=>rfl
 |succ k ih=>
  have ih:=ih (by omega);simp only [sQ,nsTo]
  rcases one_at hm k with ⟨hl,v,_,_,hv,hx⟩|⟨hl,h0⟩
  ·rw [if_pos hl,hv,if_neg (by omega),List.foldl_append,ih,Int.toNat_natCast];exact clQ_is hs (by rw [nsTo_len];exact len_of hs hm) (by omega) hx
  ·rw [if_neg hl,if_pos h0,ih]
theorem gv_okAll {xs:List Int} {size:Int} {n:Nat} (hg:gv xs size=true) (hl:xs.length=n):okAll xs size n:=fun k hk=>gv_nth hg (by rw [hl];exact hk)
def lmask (xs:List Int) (s:Nat):Nat->(Nat->Nat)
 |0=>fun _=>0
 |k+1=>if nth xs k=0 then lmask xs s k else mput (mput (lmask xs s k) (k/s) (nth xs k).toNat) (s+k%s) (nth xs k).toNat
def twice (xs:List Int) (s:Nat):Nat->Bool
 |0=>false
 |k+1=>if nth xs k=0 then twice xs s k else twice xs s k||((lmask xs s k (k/s)).testBit (nth xs k).toNat||(lmask xs s k (s+k%s)).testBit (nth xs k).toNat)
def onL (s l i:Nat):Bool:=i/s==l||s+i%s==l
theorem lmask_lt {xs:List Int} {s n:Nat} (hs:(s:Int)<=4) (hok:okAll xs s n):∀ k,k<=n->∀ l,l<8->lmask xs s k l<32:=by
 intro k
 induction k with
 |zero=>intro _ l _;simp [lmask]
 |succ k ih=>
  intro hk l hl;have hv:=hok k (by omega);simp only [lmask]
  split
  ·exact ih (by omega) l hl
  ·exact mput_lt (mput_lt (ih (by omega)) (by omega)) (by omega) l hl
theorem mput_test (M:Nat->Nat) (l u j v:Nat):(mput M l u j).testBit v=((M j).testBit v||(j==l&&u==v)):=by
 unfold mput
 by_cases h:j=l
 ·rw [if_pos h,Nat.testBit_or,Nat.testBit_two_pow];subst h;rw [Bool.eq_iff_iff]
  simp
 ·rw [if_neg h]
  simp [h]
theorem lmask_test {xs:List Int} {s n:Nat} (hok:okAll xs s n) (l v:Nat):∀ k,k<=n->((lmask xs s k l).testBit v=true↔0<v/\∃ i,i<k/\onL s l i=true/\nth xs i=(v:Int)):=by
 intro k
 induction k with
 |zero=>intro _;simp [lmask]
 |succ k ih=>
  intro hk;have hv:=hok k (by omega);have ih:=ih (by omega);simp only [lmask]
  by_cases hz:nth xs k=0
  ·rw [if_pos hz,ih]
   constructor
   ·rintro ⟨h0,i,hi,h1,h2⟩;exact ⟨h0,i,by omega,h1,h2⟩
   ·rintro ⟨h0,i,hi,h1,h2⟩;have:i≠k:=(by rintro rfl;omega);exact ⟨h0,i,by omega,h1,h2⟩
  ·rw [if_neg hz,mput_test,mput_test,Bool.or_eq_true,Bool.or_eq_true,ih];simp only [Bool.and_eq_true,beq_iff_eq]
   constructor
   ·rintro ((⟨h0,i,hi,h1,h2⟩|⟨h1,h2⟩)|⟨h1,h2⟩)
    ·exact ⟨h0,i,by omega,h1,h2⟩
    ·exact ⟨by omega,k,by omega,by simp [onL,h1],by omega⟩
    ·exact ⟨by omega,k,by omega,by simp [onL,h1],by omega⟩
   ·rintro ⟨h0,i,hi,h1,h2⟩
    by_cases e:i=k
    ·subst e;simp only [onL,Bool.or_eq_true,beq_iff_eq] at h1
     rcases h1 with h1|h1
     ·exact .inl (.inr ⟨h1.symm,by omega⟩)
     ·exact .inr ⟨h1.symm,by omega⟩
    ·exact .inl (.inl ⟨h0,i,by omega,h1,h2⟩)
theorem onL_adj:∀ s∈[2,3,4],∀ i,i<s*s->∀ j,j<s*s->adj s i j=(i != j&&(onL s (j/s) i||onL s (s+j%s) i)):=by decide +kernel
theorem twice_iff {xs:List Int} {s n:Nat} (hs:s∈[2,3,4]) (hn:n=s*s) (hok:okAll xs s n):∀ k,k<=n->(twice xs s k=true↔∃ i j,i<j/\j<k/\adj s i j=true/\nth xs i=nth xs j/\0<nth xs j):=by
 intro k
 induction k with
 |zero=>intro _;simp [twice]
 |succ k ih=>
  intro hk;have hv:=hok k (by omega);have ih:=ih (by omega);simp only [twice]
  by_cases hz:nth xs k=0
  ·rw [if_pos hz,ih]
   constructor
   ·rintro ⟨i,j,h1,h2,h3,h4,h5⟩;exact ⟨i,j,h1,by omega,h3,h4,h5⟩
   ·rintro ⟨i,j,h1,h2,h3,h4,h5⟩;have:j≠k:=(by rintro rfl;omega);exact ⟨i,j,h1,by omega,h3,h4,h5⟩
  ·rw [if_neg hz,Bool.or_eq_true,Bool.or_eq_true,ih,lmask_test hok _ _ k (by omega),lmask_test hok _ _ k (by omega)]
   constructor
   ·rintro (⟨i,j,h1,h2,h3⟩|(⟨h0,i,hi,h1,h2⟩|⟨h0,i,hi,h1,h2⟩))
    ·exact ⟨i,j,h1,by omega,h3⟩
    ·refine ⟨i,k,hi,by omega,?_,by omega,by omega⟩;rw [onL_adj s hs i (by omega) k (by omega),h1]
     simp;omega
    ·refine ⟨i,k,hi,by omega,?_,by omega,by omega⟩;rw [onL_adj s hs i (by omega) k (by omega),h1]
     simp;omega
   ·rintro ⟨i,j,h1,h2,h3,h4,h5⟩
    by_cases e:j=k
    ·subst e;rw [onL_adj s hs i (by omega) j (by omega)] at h3;simp only [Bool.and_eq_true,Bool.or_eq_true] at h3
     rcases h3.2 with h|h
     ·exact .inr (.inl ⟨by omega,i,h1,h,by omega⟩)
     ·exact .inr (.inr ⟨by omega,i,h1,h,by omega⟩)
    ·exact .inl ⟨i,j,h1,by omega,h3,h4,h5⟩
theorem adj_symm:∀ s∈[2,3,4],∀ i,i<s*s->∀ j,j<s*s->adj s i j=adj s j i/\(adj s i j=true->i≠j):=by decide +kernel
theorem twice_clash {xs:List Int} {s n:Nat} (hs:s∈[2,3,4]) (hn:n=s*s) (hok:okAll xs s n):twice xs s n=clash xs s:=by
 rw [Bool.eq_iff_iff,clash_iff hs,twice_iff hs hn hok n (Nat.le_refl _)]
 constructor
 ·rintro ⟨i,j,h1,h2,h3,h4,h5⟩;exact ⟨i,j,by omega,by omega,h3,h4,h5⟩
 ·rintro ⟨i,j,h1,h2,h3,h4,h5⟩;have hne:=(adj_symm s hs i h1 j h2).2 h3
  rcases Nat.lt_or_ge i j with h|h
  ·exact ⟨i,j,h,by omega,h3,h4,h5⟩
  ·exact ⟨j,i,by omega,by omega,by rw [<- (adj_symm s hs i h1 j h2).1];exact h3,h4.symm,by omega⟩
theorem results_cell_tmp {P:Program} {fn:Func} {p q:Tmp} {ty:TypeId} (h:fn.results= #[.cell p ty,.tmp q]) (tmps:Array Value) (w:World) (g:Nat) (t:TypeId) (cs:Array Value) (fr:Nat×Nat) (d:TypeDesc) (b:Value)
 (hp:tmps.getD p undef=.pointer (some ⟨g,0,none⟩)) (hq:tmps.getD q undef=b) (hg:w.heap[g]? =some (.cells cs t fr))
 (hu:P.underlying ty=some d) (hd:(match d with|.struct _|.array _ _=>true|_=>false)=true) (hi:(P.info? ty).map (·.size)=some cs.size):
 (results fn tmps).run P w=.ok (.tuple #[.agg cs,b]) w:=by
 have hp':tmps[p]?.getD undef=.pointer (some ⟨g,0,none⟩):=by simpa using hp
 have hq':tmps[q]?.getD undef=b:=by simpa using hq
 simp [results,h,hp',hq',asAddr,run_loadVar_row w g t ty cs fr d hg hu hd hi]
theorem MBox.lt {w:World} {g:Nat} {M:Nat->Nat} {s:Int} (h:MBox w g M s):g<w.heap.size:=(Array.getElem?_eq_some_iff.1 h).1
theorem MBox.row_other {w:World} {g g':Nat} {cs:Array Value} {M:Nat->Nat} {s:Int} (h:MBox w g M s) (hne:g≠g'):MBox (w.setRow g' cs) g M s:=by
 unfold MBox World.setRow;simp only [Array.getElem?_modify];rw [if_neg (fun e=>hne e.symm)];exact h
theorem lmask_z {xs:List Int} {s k:Nat} (h:nth xs k=0):lmask xs s (k+1)=lmask xs s k/\twice xs s (k+1)=twice xs s k:=by simp [lmask,twice,h]
theorem lmask_nz {xs:List Int} {s k v:Nat} (h:nth xs k=(v:Int)) (hv:v≠0):lmask xs s (k+1)=mput (mput (lmask xs s k) (k/s) v) (s+k%s) v/\twice xs s (k+1)=(twice xs s k||((lmask xs s k (k/s)).testBit v||(lmask xs s k (s+k%s)).testBit v)):=by
 have h0:nth xs k≠0:=by omega
 have e:(nth xs k).toNat=v:=by omega
 simp only [lmask,twice];rw [if_neg h0,if_neg h0,e];exact ⟨rfl,rfl⟩
theorem rc_lt:∀ s∈[2,3,4],∀ k,k<s*s->k/s<8/\s+k%s<8:=by decide +kernel
theorem lines_any (A:Option Addr) (c n B s:Nat) (xs:List Int) (w:World) (h:Rd w B A n xs) (hB:B<=w.heap.size) (hs:s∈[2,3,4]) (hn:n=s*s) (hok:Hid (okAll xs s n)):
 Calls Tryz.prog 187 #[.agg #[.slice A n c,.int .i64 s]] w fun e w'=>e=.returned (.tuple #[.agg (mcells (lmask xs s n) s),.bool (twice xs s n)])/\Below w.heap.size w w':=by
 have hs2:2<=s:=by simp at hs;omega
 have hs4:s<=4:=by simp at hs;omega
 have hn16:n<=16:=by simp at hs;rcases hs with rfl|rfl|rfl<;>omega
 have Hn:=Lib.hid hn;clear hn
 have hi9:∀ M:Nat->Nat,(Tryz.prog.info? 195).map (·.size)=some (mcells M s).size:=fun M=>by rw [mcells_size];kernel_rfl
 have Hi9:=Lib.hid hi9;clear hi9
 have hone:∀ M:Nat->Nat,(mcells M s).all (·.oneCell')=true:=fun M=>mone M s
 have Hone:=Lib.hid hone;clear hone
 go_enter Tryz.func187,Tryz.ntmps187
 go_wp2
 go_loopw [5,14] (fun t i wr=>∃ k:Nat,k<=n/\i=.int .i64 k/\t=.bool (twice xs s k)/\Hid (MBox wr (w.heap.size+1+1) (lmask xs s k) s)/\Hid (MBox wr (w.heap.size+1) (fun _=>0) 0)/\Below w.heap.size w wr) (fun _ i _=>n-(intOf i).toNat)
 case atStart=>
  refine ⟨0,Nat.zero_le _,rfl,rfl,Lib.hid ?_,Lib.hid ?_,(((Below.refl _ _).alloc (Nat.le_refl _) _).alloc (by simp) _).alloc (by simp;omega) _⟩
  ·have:=heap_alloc_new ((w.alloc (Obj.cells #[Value.slice A n c,Value.int IntKind.i64 ↑s] 125)).alloc (Obj.cells (mcells (fun _=>0) 0) 195)) (.cells (mcells (fun _=>0) s) 195);simp only [World.size_alloc] at this;exact this
  ·have:=heap_alloc_new (w.alloc (Obj.cells #[Value.slice A n c,Value.int IntKind.i64 ↑s] 125)) (.cells (mcells (fun _=>0) 0) 195);simp only [World.size_alloc] at this;exact (heap_alloc_old _ _ (by simp)).trans this
 case round=>
  obtain ⟨k,hk,rfl,rfl,hx,hy,hB0⟩:=hrel
  by_cases hlt:k<n
  ·obtain ⟨b,off,rfl,hbB,hck⟩:=(h.below (hB0.mono hB)).at_ hlt;obtain ⟨x0,x4⟩:=hok.out k hlt;obtain ⟨v,hv⟩:=Int.eq_ofNat_of_zero_le x0;have hv4:v<=4:=(by omega);obtain ⟨hr8,hc8⟩:=rc_lt s hs k (by have:=Hn.out;omega);have Hr:Hid ((k:Int)/(s:Int)=((k/s:Nat):Int)):=Lib.hid (by simp);have Hc:Hid ((s:Int)+(k:Int)%(s:Int)=((s+k%s:Nat):Int)):=Lib.hid (by simp);have Hm:=Lib.hid (lmask_lt (xs:=xs) (by omega:(s:Int)<=4) hok.out k hk)
   by_cases hz:v=0
   ·subst hz;obtain ⟨e1,e2⟩:=lmask_z (s:=s) hv;have E1:=Lib.hid e1;have E2:=Lib.hid e2;clear e1 e2
    go_wp2
    go_roundw
    case rel=>exact ⟨k+1,by omega,by go_num,by rw [E2.out],by rw [E1.out];exact hx,hy,hB0⟩
    case measure=>simp [intOf];omega
   ·obtain ⟨e1,e2⟩:=lmask_nz (s:=s) hv hz;have E1:=Lib.hid e1;have E2:=Lib.hid e2;clear e1 e2;have hz1:((v:Int)==0)=false:=(by simp;omega);cases ht:twice xs s k
    ·go_wp2_with (first|(refine wpList_load_row_w rfl 195 _ rfl (w.heap.size+1+1) rfl 195 (mcells (lmask xs s k) s) (0,0) _ hx.out Tryz.underlying195 rfl (Hi9.out _) ?_)|(go_at_call 194;refine (meets_any (lmask xs s k) s k (k/s) (s+k%s) v _ (by omega) (by omega) Hr.out Hc.out hr8 hc8 (by omega) hv4 Hm.out).mono ?_;rintro e w1 ⟨rfl,hb1⟩;have hx1:=Lib.hid (MBox.below hx.out hx.out.lt hb1);have hy1:=Lib.hid (MBox.below hy.out hy.out.lt hb1);have hB1:=step hB0 hb1;clear hb1)|(refine wpList_load_row rfl 195 _ rfl (w.heap.size+1+1) rfl 195 (mcells (lmask xs s k) s) (0,0) _ hx1.out Tryz.underlying195 rfl (Hi9.out _) ?_)|(go_at_call 195;refine (with_any (lmask xs s k) s k (k/s) (s+k%s) v _ (by omega) (by omega) Hr.out Hc.out hr8 hc8 (by omega) hv4 Hm.out).mono ?_;rintro e w2 ⟨rfl,hb2⟩;have hx2:=Lib.hid (MBox.below hx1.out hx1.out.lt hb2);have hy2:=Lib.hid (MBox.below hy1.out hy1.out.lt hb2);have hB2:=step hB1 hb2;clear hb2)|(refine wpList_store_row rfl 195 _ _ rfl (w.heap.size+1+1) (mcells (mput (mput (lmask xs s k) (k/s) v) (s+k%s) v) s) rfl rfl 195 (mcells (lmask xs s k) s) hx2.out (Hi9.out _) rfl (Hone.out _) ?_))
     have hxe:=Lib.hid (MBox.stored (M':=mput (mput (lmask xs s k) (k/s) v) (s+k%s) v) (s':=s) hx2.out);have hye:=Lib.hid (MBox.row_other (cs:=mcells (mput (mput (lmask xs s k) (k/s) v) (s+k%s) v) s) hy2.out (show w.heap.size+1≠w.heap.size+1+1 by omega));have hBe:=setRow_below (g:=w.heap.size+1+1) (cs:=mcells (mput (mput (lmask xs s k) (k/s) v) (s+k%s) v) s) hB2 (by omega);rw [ht] at E2
     go_roundw
     case rel=>exact ⟨k+1,by omega,by go_num,by rw [E2.out];rfl,by rw [E1.out];exact hxe,hye,hBe⟩
     case measure=>simp [intOf];omega
    ·go_wp2_with (first|(refine wpList_load_row rfl 195 _ rfl (w.heap.size+1+1) rfl 195 (mcells (lmask xs s k) s) (0,0) _ hx.out Tryz.underlying195 rfl (Hi9.out _) ?_)|(go_at_call 195;refine (with_any (lmask xs s k) s k (k/s) (s+k%s) v _ (by omega) (by omega) Hr.out Hc.out hr8 hc8 (by omega) hv4 Hm.out).mono ?_;rintro e w2 ⟨rfl,hb2⟩;have hx2:=Lib.hid (MBox.below hx.out hx.out.lt hb2);have hy2:=Lib.hid (MBox.below hy.out hy.out.lt hb2);have hB2:=step hB0 hb2;clear hb2)|(refine wpList_store_row rfl 195 _ _ rfl (w.heap.size+1+1) (mcells (mput (mput (lmask xs s k) (k/s) v) (s+k%s) v) s) rfl rfl 195 (mcells (lmask xs s k) s) hx2.out (Hi9.out _) rfl (Hone.out _) ?_))
     have hxe:=Lib.hid (MBox.stored (M':=mput (mput (lmask xs s k) (k/s) v) (s+k%s) v) (s':=s) hx2.out);have hye:=Lib.hid (MBox.row_other (cs:=mcells (mput (mput (lmask xs s k) (k/s) v) (s+k%s) v) s) hy2.out (show w.heap.size+1≠w.heap.size+1+1 by omega));have hBe:=setRow_below (g:=w.heap.size+1+1) (cs:=mcells (mput (mput (lmask xs s k) (k/s) v) (s+k%s) v) s) hB2 (by omega);rw [ht] at E2
     go_roundw
     case rel=>exact ⟨k+1,by omega,by go_num,by rw [E2.out];rfl,by rw [E1.out];exact hxe,hye,hBe⟩
     case measure=>simp [intOf];omega
  ·obtain rfl:k=n:=by omega
   have hxf:=Lib.hid (MBox.stored (M':=lmask xs s k) (s':=s) hy.out);have hBe:=setRow_below (g:=w.heap.size+1) (cs:=mcells (lmask xs s k) s) hB0 (by omega)
   go_wp2_with (first|(refine wpList_load_row rfl 195 _ rfl (w.heap.size+1+1) rfl 195 (mcells (lmask xs s k) s) (0,0) _ hx.out Tryz.underlying195 rfl (Hi9.out _) ?_)|(refine wpList_store_row rfl 195 _ _ rfl (w.heap.size+1) (mcells (lmask xs s k) s) rfl rfl 195 (mcells (fun _=>0) 0) hy.out (Hi9.out _) rfl (Hone.out _) ?_))
   refine bodyPost_ret (v:=.tuple #[.agg (mcells (lmask xs s k) s),.bool (twice xs s k)]) (results_cell_tmp (by rfl) _ _ (w.heap.size+1) 195 _ (0,0) _ _ rfl rfl hxf.out Tryz.underlying195 rfl (Hi9.out _)) rfl ⟨rfl,hBe⟩
theorem line_inS {s u:Nat} (hs:s∈[2,3,4]) (hu:u<2*s):∀ j,j<s->∃ q:Nat,lineAt s u j=(q:Int)/\lcN s u j=q/\q<s*s:=by
 intro j hj;have h:=line_at hs hu j hj
 have h0:0<=lineAt s u j:=by
  simp at hs
  by_cases hx:(u:Int)<(s:Int)
  ·rw [lineAt_row hx]
   rcases hs with rfl|rfl|rfl<;>omega
  ·rw [lineAt_col hx]
   rcases hs with rfl|rfl|rfl<;>omega
 exact ⟨(lineAt s u j).toNat,by omega,rfl,h⟩
theorem lineCells_lineS {f:Nat} {s u:Nat} {w:World} (hs:s∈[2,3,4]) (hu:u<2*s) (h:Calls Tryz.prog f #[.int .i64 s,.int .i64 u] w (RetSl w (lineL s u))):
 Calls Tryz.prog f #[.int .i64 s,.int .i64 u] w fun e w''=>∃ A3 c3,e=.returned (.slice A3 s c3)/\Ow w'' w.heap.size A3 s c3 (lineTo s u s)/\Below w.heap.size w w'':=by
 refine h.mono ?_;rintro e w'' ⟨A3,c3,rfl,ho3,hb3⟩
 have e1:lineL s u=lineTo s u s:=by
  have:lineOk s u=true:=by simp [lineOk,inr];simp at hs;omega
  simp [lineL,this]
 rw [e1,lineTo_length] at ho3;rw [e1,lineTo_length];exact ⟨A3,c3,rfl,ho3,hb3⟩
set_option maxHeartbeats 1000000 in
theorem singlesIn_any (A:Option Addr) (c n B:Nat) (m:List Int) (s:Int) (w:World) (h:Rd w B A n m) (hBm:B<=w.heap.size) (hv:mvd m s=true) (hT:Tz w):
 Calls Tryz.prog 180 #[.slice A n c] w fun e w'=>∃ A' c',e=.returned (.slice A' (sQ m n).length c')/\OwF w' w.heap.size A' (sQ m n).length c' (sQ m n)/\Below w.heap.size w w':=by
 have hlen:=h.1;obtain ⟨_,_,hn16,_⟩:=mvd_at hv;rw [hlen] at hn16;have Hv:=Lib.hid hv;clear hv hlen
 go_enter Tryz.func180,Tryz.ntmps180
 go_wp2
 go_loopw [3,9] (fun qv i wr=>∃ (u k:Nat) (A':Option Addr) (c':Nat),u<=n/\i=.int .i64 u/\qv=.slice A' k c'/\Hid ((sQ m u).length=k)/\OwF wr w.heap.size A' k c' (sQ m u)/\Below w.heap.size w wr) (fun _ i _=>n-(intOf i).toNat)
 case atStart=>exact ⟨0,0,none,0,Nat.zero_le _,rfl,rfl,Lib.hid rfl,World.ownsRow_nil _ _ _ _,Below.refl _ _⟩
 case round=>
  obtain ⟨u,k,A',c',hu,rfl,rfl,hk,ho,hb⟩:=hrel
  by_cases hlt:u<n
  ·have hltI:(u:Int)<(n:Int):=by omega
   obtain ⟨b,off,rfl,hbB,hck⟩:=(h.below (hb.mono hBm)).at_ hlt;have hsw:=hb.size;have hTr:=hT.below hT.lt hb;have hk16:k<=16:=(by have:=hk.out;have:=sQ_len m u;omega);have hk11:k<=1099511627776:=(by omega);obtain ⟨x0,x1,x2⟩:=mvd_nth Hv.out u;obtain ⟨M,hM⟩:=Int.eq_ofNat_of_zero_le x0;have hm2:M%2=0:=(by rw [hM,Int.tmod_eq_emod_of_nonneg (by omega)] at x2;omega);have hM32:M<32:=(by omega);have Hone:=Lib.hid (fun w hT=>onlyValue_any M hM32 hm2 w hT);rw [show oneOf (bitsTo M 4)=oneOf (maskVals (nth m u)) by rw [hM,mv_bits hM32 hm2]] at Hone;rw [hM] at hck;have Hs:Hid (sQ m (u+1)=if oneOf (maskVals (nth m u))=0 then sQ m u else sQ m u++[(u,(oneOf (maskVals (nth m u))).toNat)]):=Lib.hid rfl
   rcases one_at Hv.out u with ⟨_,v,v1,v4,hov,_⟩|⟨_,h0⟩
   ·rw [hov] at Hone Hs;have hne:((v:Int) != 0)=true:=(by simp;omega);obtain ⟨L,hL⟩:∃ L,sQ m u=L:=⟨_,rfl⟩;have Hs':=Lib.hid (show sQ m (u+1)=L++[(u,v)] by rw [Hs.out,if_neg (by omega),hL];simp);have hk':=Lib.hid (show L.length=k by rw [<- hL];exact hk.out);rw [hL] at ho;have HO:=Lib.hid ho;clear x0 x1 x2 hM hm2 hov Hs hL ho hk
    go_wp2_with (first
     |(go_at_call 72;refine (Hone.out _ hTr).mono ?_;rintro e w' ⟨rfl,rfl⟩;have ho5:=HO.out)
     |(at_builtin;refine push_found rfl (.tmp 18) (.tmp 22) rfl w.heap.size A' k c' _ u v rfl rfl ho5 hk11 hsw ?_;intro A4 c4 w4 ho4 hg4))
    have hb4:Below w.heap.size w w4:=(hb.alloc hsw _).grown hg4 (by simp;omega) (fun j hj=>(World.ownsRow.lt HO.out j hj).1)
    go_roundw
    case rel=>exact ⟨u+1,k+1,A4,c4,by omega,by go_num,rfl,Lib.hid (by rw [Hs'.out,List.length_append,hk'.out];rfl),by rw [Hs'.out];exact ho4,hb4⟩
    case measure=>simp [intOf];omega
   ·rw [h0] at Hone Hs;have Hs':=Lib.hid (show sQ m (u+1)=sQ m u by rw [Hs.out,if_pos rfl]);clear x0 x1 x2 hM hm2 h0 Hs
    go_wp2_with (go_at_call 72;refine (Hone.out _ hTr).mono ?_;rintro e w' ⟨rfl,rfl⟩)
    go_roundw
    case rel=>exact ⟨u+1,k,A',c',by omega,by go_num,rfl,Lib.hid (by rw [Hs'.out];exact hk.out),by rw [Hs'.out];exact ho,hb⟩
    case measure=>simp [intOf];omega
  ·obtain rfl:u=n:=by omega
   go_wp2
   go_ret
   rw [hk.out];exact ⟨_,_,rfl,ho,hb⟩
def clTo (S:Nat) (o:List Int) (k v:Nat):Nat->List Int
 |0=>o
 |1=>cIn S (k/S) k (2^v) o S
 |_=>clQ S o (k,v)
def lnAt (S k:Nat):Nat->Nat
 |0=>k/S
 |_=>S+k%S
theorem clTo_step {S:Nat} {o:List Int} {k v j:Nat} (hj:j<2):clTo S o k v (j+1)=cIn S (lnAt S k j) k (2^v) (clTo S o k v j) S:=by
 have:j=0\/j=1:=by omega
 rcases this with rfl|rfl<;>rfl
set_option maxHeartbeats 2000000 in
theorem clearLines_any (g n cc lo s k v:Nat) (o:List Int) (w:World) (ho:Ow w lo (some ⟨g,0,none⟩) n cc o) (hs:s∈[2,3,4]) (hn:n=s*s) (hk:k<n) (hv1:1<=v) (hv4:v<=4):
 Calls Tryz.prog 181 #[.slice (some ⟨g,0,none⟩) n cc,.int .i64 s,.agg #[.int .i64 k,.int .i64 v]] w fun e w'=>e=.returned (.tuple #[])/\Ow w' lo (some ⟨g,0,none⟩) n cc (clQ s o (k,v))/\w.grownBy w' (some g):=by
 have hs2:2<=s:=by simp at hs;omega
 have hs4:s<=4:=by simp at hs;omega
 have hk16:k<16:=by simp at hs;rcases hs with rfl|rfl|rfl<;>omega
 have hgw:=ho.own_hi g rfl;obtain ⟨hr8,hc8⟩:=rc_lt s hs k (by rw [<- hn];exact hk)
 have Hln:Hid (∀ j,lnAt s k j<2*s):=Lib.hid (fun j=>by
  have hs0:0<s:=by omega
  unfold lnAt
  split
  ·have:k/s<s:=Nat.div_lt_of_lt_mul (by rw [<- hn];exact hk);omega
  ·have:=Nat.mod_lt k hs0;omega)
 have Hs:=Lib.hid hs;have Hn:=Lib.hid hn;have Hr:Hid ((k:Int)/(s:Int)=((k/s:Nat):Int)):=Lib.hid (by simp);have Hc:Hid ((s:Int)+(k:Int)%(s:Int)=((s+k%s:Nat):Int)):=Lib.hid (by simp);obtain ⟨r,hr⟩:∃ r,r=k/s:=⟨_,rfl⟩;obtain ⟨q,hq⟩:∃ q,q=s+k%s:=⟨_,rfl⟩;have Hr':=Lib.hid (show lnAt s k 0=r from hr.symm);have Hq':=Lib.hid (show lnAt s k 1=q from hq.symm);rw [<- hr] at Hr hr8;rw [<- hq] at Hc hc8;have hx0:(w.alloc (.cells #[.int .i64 (k:Int),.int .i64 (v:Int)] 186)).cell? ⟨w.heap.size,0,none⟩=some (.int .i64 k):=cell_of_row _ _ 0 _ _ (0,0) (heap_alloc_new w _)
 have hx1:(w.alloc (.cells #[.int .i64 (k:Int),.int .i64 (v:Int)] 186)).cell? ⟨w.heap.size,1,none⟩=some (.int .i64 v):=cell_of_row _ _ 1 _ _ (0,0) (heap_alloc_new w _)
 have hs0:w.heap.size<(w.alloc (.cells #[.int .i64 (k:Int),.int .i64 (v:Int)] 186)).heap.size:=by simp
 have hb0:Below w.heap.size w (w.alloc (.cells #[.int .i64 (k:Int),.int .i64 (v:Int)] 186)):=(Below.refl _ _).alloc (Nat.le_refl _) _
 have hw2:wrap64 ((2:Int)^v)=2^v:=by
  obtain ⟨r,rfl⟩:∃ r,v=r+1:=⟨v-1,by omega⟩;exact pow_wrap5 (by omega)
 have hv64:v<64:=by omega
 clear hr hq hs hn
 go_enter Tryz.func181,Tryz.ntmps181
 go_wp2_with (go_at_call 165;refine (linesThrough_rc s k r q _ (by omega) (by omega) hk16 Hr.out Hc.out).mono ?_;rintro e w1 ⟨rfl,hb1⟩)
 have hy0:=(hb1.cell (p:=⟨w.heap.size,0,none⟩) hs0).trans hx0;have hy1:=(hb1.cell (p:=⟨w.heap.size,1,none⟩) hs0).trans hx1;have hw1:w.heap.size<w1.heap.size:=Nat.lt_of_lt_of_le hs0 hb1.size;have hbA:=step hb0 hb1;obtain ⟨W,hW⟩:∃ W,w1.alloc (.cells #[.int .i64 (r:Int),.int .i64 (q:Int)] 3)=W:=⟨_,rfl⟩
 have hz0:W.cell? ⟨w1.heap.size,0,none⟩=some (.int .i64 r):=by rw [<- hW];exact cell_of_row _ _ 0 _ _ (0,0) (heap_alloc_new w1 _)
 have hz1:W.cell? ⟨w1.heap.size,1,none⟩=some (.int .i64 q):=by rw [<- hW];exact cell_of_row _ _ 1 _ _ (0,0) (heap_alloc_new w1 _)
 have hbW:Below w1.heap.size w1 W:=by rw [<- hW];exact (Below.refl _ _).alloc (Nat.le_refl _) _
 have hsW:w1.heap.size<W.heap.size:=by rw [<- hW];simp
 have hb2:=step hbA hbW;have hoW:=ho.below hb2;have hq0:=(hbW.cell (p:=⟨w.heap.size,0,none⟩) hw1).trans hy0;have hq1:=(hbW.cell (p:=⟨w.heap.size,1,none⟩) hw1).trans hy1;obtain ⟨L,hL⟩:∃ L,w1.heap.size=L:=⟨_,rfl⟩;have HW:=Lib.hid hW;rw [hL] at hz0 hz1 hsW hw1
 have HS:Hid (∀ wr,W.grownBy wr (some g)->wr.cell? ⟨w.heap.size,0,none⟩=some (.int .i64 k)/\wr.cell? ⟨w.heap.size,1,none⟩=some (.int .i64 v)/\wr.cell? ⟨L,0,none⟩=some (.int .i64 r)/\wr.cell? ⟨L,1,none⟩=some (.int .i64 q)):=Lib.hid (fun wr hg=>
  ⟨(hg.cell_far ⟨w.heap.size,0,none⟩ (by show w.heap.size<_;omega) (fun e=>by injection e with e;dsimp only at e;omega)).trans hq0,(hg.cell_far ⟨w.heap.size,1,none⟩ (by show w.heap.size<_;omega) (fun e=>by injection e with e;dsimp only at e;omega)).trans hq1,
   (hg.cell_far ⟨L,0,none⟩ (by show L<_;omega) (fun e=>by injection e with e;dsimp only at e;omega)).trans hz0,(hg.cell_far ⟨L,1,none⟩ (by show L<_;omega) (fun e=>by injection e with e;dsimp only at e;omega)).trans hz1⟩)
 have hgr2:w.grownBy W (some g):=⟨hb2.os,hb2.tape,hb2.output,hb2.size,fun j hj _=>hb2.block j hj⟩;have HG2:=Lib.hid hgr2;clear hW hx0 hx1 hy0 hy1 hz0 hz1 hq0 hq1 hb0 hb1 hbA hbW hb2 hgr2 ho;rw [HW.out,hL]
 go_loopw [23] (fun i wr=>∃ j:Nat,j<=2/\i=.int .i64 j/\Ow wr lo (some ⟨g,0,none⟩) n cc (clTo s o k v j)/\W.grownBy wr (some g)) (fun i _=>2-(intOf i).toNat)
 case atStart=>exact ⟨0,Nat.zero_le _,rfl,hoW,World.grownBy.refl _ _⟩
 case round=>
  obtain ⟨j,hj,rfl,ho,hg⟩:=hrel
  by_cases hlt:j<2
  ·have hltI:(j:Int)<2:=by omega
   have hline:wr.cell? ⟨L,j,none⟩=some (.int .i64 (lnAt s k j:Nat)):=by
    obtain ⟨_,_,c0,c1⟩:=HS.out wr hg;have:j=0\/j=1:=(by omega)
    rcases this with rfl|rfl
    ·rw [Hr'.out];exact c0
    ·rw [Hq'.out];exact c1
   obtain ⟨u,hu⟩:∃ u,lnAt s k j=u:=⟨_,rfl⟩;have hu2:u<2*s:=(by rw [<- hu];exact Hln.out j);have Hst:=Lib.hid (clTo_step (S:=s) (o:=o) (k:=k) (v:=v) hlt);rw [hu] at hline Hst;obtain ⟨oj,hoj⟩:∃ oj,clTo s o k v j=oj:=⟨_,rfl⟩;rw [hoj] at ho Hst;have HLc:=Lib.hid (lineCells_lineS Hs.out hu2 (implLineCells s u wr ⟨by omega,by omega⟩));have hat:=Lib.hid (line_inS Hs.out hu2);rw [<- Hn.out] at hat;have hgwr:=ho.own_hi g rfl;clear hu hoj
   go_wp2_with (go_at_call 183;refine HLc.out.mono ?_;rintro e w3 ⟨A3,c3,rfl,ho3,hb3⟩)
   have hoA:=ho.below hb3;have hgA:W.grownBy w3 (some g):=hg.trans ⟨hb3.os,hb3.tape,hb3.output,hb3.size,fun j hj _=>hb3.block j hj⟩;have ho3':=ho3.mono (show g+1<=wr.heap.size from hgwr);clear ho ho3 hg hb3
   go_loopw [31] (fun i wr=>∃ t:Nat,t<=s/\i=.int .i64 t/\Ow wr lo (some ⟨g,0,none⟩) n cc (cIn s u k (2^v) oj t)/\Ow wr (g+1) A3 s c3 (lineTo s u s)/\W.grownBy wr (some g)) (fun i _=>s-(intOf i).toNat)
   case atStart=>exact ⟨0,Nat.zero_le _,rfl,hoA,ho3',hgA⟩
   case round=>
    clear hoA ho3' hgA hline;obtain ⟨t,ht,rfl,ho,hoL,hg⟩:=hrel
    by_cases hts:t<s
    ·have htI:(t:Int)<(s:Int):=(by omega);obtain ⟨p,hp,hpc,hpn⟩:=hat.out t hts;obtain ⟨g3,rfl,_,_⟩:=hoL.form (by omega);obtain ⟨hcl,_⟩:=hoL.cell hts;rw [lineTo_nth hts,hp] at hcl;obtain ⟨d0,d1,_,_⟩:=HS.out wr hg;obtain ⟨ot,hot⟩:∃ ot,cIn s u k (2^v) oj t=ot:=⟨_,rfl⟩;have Hs1:=Lib.hid (show cIn s u k (2^v) oj (t+1)=if p≠k then ot.set p (bits .andNot .i64 (nth ot p) (2^v)) else ot by simp only [cIn];rw [hpc,hot]);rw [hot] at ho;clear hp hpc hot
     by_cases hpk:p=k
     ·have hne:((p:Int) != (k:Int))=false:=(by simp;omega);have Hs1':=Lib.hid (show cIn s u k (2^v) oj (t+1)=ot by rw [Hs1.out,if_neg (by simpa using hpk)]);clear hpk Hs1
      go_wp2
      go_roundw
      case rel=>exact ⟨t+1,by omega,by go_num,by rw [Hs1'.out];exact ho,hoL,hg⟩
      case measure=>simp [intOf];omega
     ·have hne:((p:Int) != (k:Int))=true:=(by simp;omega);obtain ⟨hcn,hfn⟩:=ho.cell hpn;have hpI:(p:Int)<(n:Int):=(by omega);obtain ⟨z,hz⟩:∃ z,bits .andNot .i64 (nth ot p) (2^v)=z:=⟨_,rfl⟩;have Hs1':=Lib.hid (show cIn s u k (2^v) oj (t+1)=ot.set p z by rw [Hs1.out,if_pos hpk,hz]);have Hz:=Lib.hid hz;have hput:=Lib.hid (ho.putN p z);have hLp:=Lib.hid (hoL.far (w':=wr.setCell ⟨g,p,none⟩ (.int .i64 z)) grown_set (fun b hb e=>by have h1:=hoL.own_lo b hb;injection e with e;omega));have hgp:=Lib.hid (hg.trans (grown_set (w:=wr) (G:=g) (i:=p) (v:=(.int .i64 z))))
      clear hpk Hs1 hz
      go_wp2
      go_region
      rw [Hz.out]
      go_wp2
      go_roundw
      case rel=>exact ⟨t+1,by omega,by go_num,by rw [Hs1'.out];exact hput.out,hLp.out,grown_drew hgp.out⟩
      case measure=>simp [intOf];omega
    ·obtain rfl:t=s:=by omega
     go_wp2
     go_roundw
     case rel=>exact ⟨j+1,by omega,by go_num,by rw [Hst.out];exact ho,hg⟩
     case measure=>simp [intOf];omega
  ·have hj2:j=2:=by omega
   have hjI:¬ (j:Int)<2:=(by omega);have ho':=Lib.hid (show Ow wr lo (some ⟨g,0,none⟩) n cc (clQ s o (k,v)) by rw [hj2] at ho;exact ho);clear hj2 hlt ho
   go_wp2
   go_end0
   exact ⟨rfl,ho'.out,HG2.out.trans hg⟩
set_option maxHeartbeats 2000000 in
theorem implNarrowSingles (A:Option Addr) (c n B:Nat) (m:List Int) (size:Int) (w:World) (h:Rd w B A n m) (hm64:B64 m) (hT:Tz w) (hBm:B<=w.heap.size) (hm:n<=1099511627776) (hsb: -9223372036854775808<=size/\size<=9223372036854775807):
 Calls Tryz.prog 170 #[.slice A n c,.int .i64 size] w (RetSl w (nsL m size n)):=by
 have hlen:=Lib.hid h.1;have HV:=Lib.hid (implMasksValid A c n B m size w h hm64 hBm hm hsb);cases hv:mvd m size
 ·have HL:=Lib.hid (show nsL m size n=[] by simp [nsL,hv])
  go_enter Tryz.func170,Tryz.ntmps170
  go_wp2_with (go_at_call 67;refine HV.out.mono ?_;rintro e w1 ⟨rfl,hb1⟩;rw [hv])
  go_ret
  rw [HL.out];exact ⟨_,_,rfl,Ow.nil_ _ _,hb1⟩
 ·obtain ⟨⟨s2,s4⟩,hsq,hn16,hrng⟩:=mvd_at hv;obtain ⟨s,rfl⟩:=Int.eq_ofNat_of_zero_le (by omega:0<=size)
  have hs:s∈[2,3,4]:=by simp;omega
  have hn:n=s*s:=by rw [<- hlen.out];exact len_of hs hv
  have hn0:0<n:=by
   simp at hs
   rcases hs with rfl|rfl|rfl<;>omega
  have HCl:=Lib.hid (fun w' (hb:Below w.heap.size w w')=>clone_any A n c B m w' (h.below (hb.mono hBm)) (Nat.le_trans hBm hb.size) hn0 hm);have HHi:=Lib.hid (fun w' (hb:Below w.heap.size w w')=>singlesIn_any A c n B m s w' (h.below (hb.mono hBm)) (Nat.le_trans hBm hb.size) hv (hT.below hT.lt hb));have Hin:=Lib.hid (sQ_in hv n);have HQ:=sQ_len m n
  have HF:=Lib.hid (show nsL m s n=(sQ m n).foldl (clQ s) m by
   rw [hn,sQ_fold hs hv (s*s) (Nat.le_refl _)];simp [nsL,hv])
  have Hs:=Lib.hid hs;have Hn:=Lib.hid hn;obtain ⟨q,hq⟩:∃ q,q=sQ m n:=⟨_,rfl⟩;rw [<- hq] at HHi Hin HQ HF;obtain ⟨K,hK⟩:∃ K,K=q.length:=⟨_,rfl⟩;rw [<- hK] at HHi HQ;have HK:=Lib.hid hK;clear hrng hsq hq hK hn hs hn16
  go_enter Tryz.func170,Tryz.ntmps170
  go_wp2_with (first
   |(go_at_call 67;refine HV.out.mono ?_;rintro e w1 ⟨rfl,hb1⟩;rw [hv])
   |(go_at_call 61;refine (HCl.out _ hb1).mono ?_;rintro e w2 ⟨Ac,cc,rfl,ho2,hb2⟩;have hb12:=step hb1 hb2)
   |(go_at_call 180;refine (HHi.out _ hb12).mono ?_;rintro e w3 ⟨Aq,cq,rfl,hoq,hb3⟩))
  have hb13:=step hb12 hb3;have ho3:=(ho2.mono hb1.size).below hb3;obtain ⟨g,rfl,hgl,hgw⟩:=ho3.form hn0;have hoq':OwF w3 (g+1) Aq K cq q:=World.ownsRow.mono hoq (show g+1<=w2.heap.size from (ho2.mono hb1.size).own_hi g rfl)
  go_loopw [17] (fun i wr=>∃ k:Nat,k<=K/\i=.int .i64 k/\Ow wr w.heap.size (some ⟨g,0,none⟩) n cc ((q.take k).foldl (clQ s) m)/\OwF wr (g+1) Aq K cq q/\Below w.heap.size w wr) (fun i _=>K-(intOf i).toNat)
  case atStart=>exact ⟨0,Nat.zero_le _,rfl,ho3,hoq',hb13⟩
  case round=>
   clear ho3 hoq hoq' hb13 hb12 hb1 hb2 hb3 ho2;obtain ⟨k,hk,rfl,ho,hof,hb⟩:=hrel
   by_cases hlt:k<K
   ·obtain ⟨gq,rfl,hgq,hcx,hcy⟩:=hof.cells hlt;have hkq:k<q.length:=(by rw [<- HK.out];exact hlt)
    have hmem:q.getD k (0,0)∈q:=by
     rw [List.getD_eq_getElem?_getD,List.getElem?_eq_getElem hkq];exact List.getElem_mem _
    obtain ⟨hx,hy1,hy4⟩:=Hin.out _ hmem
    have HT:=Lib.hid (show (q.take (k+1)).foldl (clQ s) m=clQ s ((q.take k).foldl (clQ s) m) ((q.getD k (0,0)).1,(q.getD k (0,0)).2) by
     rw [List.take_add_one,List.getElem?_eq_getElem hkq]
     simp only [Option.toList_some,List.foldl_append,List.foldl_cons,List.foldl_nil,List.getD_eq_getElem?_getD,List.getElem?_eq_getElem hkq,Option.getD_some])
    obtain ⟨x,hxe⟩:∃ x,x=(q.getD k (0,0)).1:=⟨_,rfl⟩;obtain ⟨y,hye⟩:∃ y,y=(q.getD k (0,0)).2:=⟨_,rfl⟩;rw [<- hxe] at hcx hx HT;rw [<- hye] at hcy hy1 hy4 HT;obtain ⟨o,hoe⟩:∃ o,o=(q.take k).foldl (clQ s) m:=⟨_,rfl⟩;rw [<- hoe] at ho HT;clear hxe hye hmem hoe;have hgr:=ho.own_hi g rfl;have hgl2:=ho.own_lo g rfl;obtain ⟨W,hW⟩:∃ W,wr.alloc (.cells #[.int .i64 (x:Int),.int .i64 (y:Int)] 186)=W:=⟨_,rfl⟩;have hoW:Ow W w.heap.size (some ⟨g,0,none⟩) n cc o:=(by rw [<- hW];exact World.ownsRow.alloc ho _);have hofW:OwF W (g+1) (some ⟨gq,0,none⟩) K cq q:=(by rw [<- hW];exact World.ownsRow.alloc hof _);have hbW:Below w.heap.size w W:=(by rw [<- hW];exact hb.alloc hb.size _);have hz0:W.cell? ⟨wr.heap.size,0,none⟩=some (.int .i64 (x:Int)):=(by rw [<- hW];exact cell_of_row _ _ 0 _ _ (0,0) (heap_alloc_new wr _));have hz1:W.cell? ⟨wr.heap.size,1,none⟩=some (.int .i64 (y:Int)):=(by rw [<- hW];exact cell_of_row _ _ 1 _ _ (0,0) (heap_alloc_new wr _));have HCL:=Lib.hid (clearLines_any g n cc w.heap.size s x y o W hoW Hs.out Hn.out hx hy1 hy4);have HW:=Lib.hid hW;clear hW
    go_wp2_with (go_at_call 181;rw [HW.out];refine HCL.out.mono ?_;rintro e w5 ⟨rfl,ho5,hg5⟩)
    have hof5:OwF w5 (g+1) (some ⟨gq,0,none⟩) K cq q:=World.ownsRow.kept hofW hg5 (.inr (fun e=>by
     have h1:=(World.ownsRow.lt hofW g e).1;omega))
    have hb5:Below w.heap.size w w5:=hbW.grown hg5 hbW.size (fun j hj=>by injection hj with hj;omega)
    go_roundw
    case rel=>exact ⟨k+1,by omega,by go_num,by rw [HT.out];exact ho5,hof5,hb5⟩
    case measure=>simp [intOf];omega
   ·obtain rfl:k=K:=by omega
    rw [show q.take k=q by rw [HK.out];exact List.take_length] at ho
    go_wp2
    go_ret
    rw [HF.out];exact retSl_mk ho hb
theorem ones64_odd (M:Nat) (h:M<32) (he:M%2=1) (w:World):Calls Tryz.prog 132 #[.int .u64 M] w fun e w'=>e=.returned (.int .i64 (Lib.onesCount M:Nat))/\w=w':=by
 have:M=1\/M=3\/M=5\/M=7\/M=9\/M=11\/M=13\/M=15\/M=17\/M=19\/M=21\/M=23\/M=25\/M=27\/M=29\/M=31:=by omega
 rcases this with rfl|rfl|rfl|rfl|rfl|rfl|rfl|rfl|rfl|rfl|rfl|rfl|rfl|rfl|rfl|rfl
 all_goals
  go_enter Tryz.func132,Tryz.ntmps132
  go_wp2
  go_ret
  exact ⟨by kernel_rfl,rfl⟩
theorem ones_all (M:Nat) (h:M<32) (w:World):Calls Tryz.prog 86 #[.int .u64 M] w fun e w'=>e=.returned (.int .i64 (Lib.onesCount M:Nat))/\w=w':=by
 by_cases he:M%2=0
 ·exact ones_any M h he w
 ·go_enter Tryz.func86,Tryz.ntmps86
  go_wp2_with (go_at_call 132;refine (ones64_odd M h (by omega) _).mono ?_;rintro e w' ⟨rfl,rfl⟩)
  go_ret
  exact ⟨rfl,rfl⟩
theorem pairMask_any (M:Nat) (h:M<32) (w:World):Calls Tryz.prog 192 #[.int .i64 M] w fun e w'=>e=.returned (.bool (two M))/\w=w':=by
 have hl:=ones_lt M h;have Ho:=Lib.hid (fun w=>ones_all M h w)
 have Ht:=Lib.hid (show two M=decide (((Lib.onesCount M:Nat):Int)=2) by
  rw [two,Bool.eq_iff_iff,beq_iff_eq,decide_eq_true_eq];omega)
 obtain ⟨p,hp⟩:∃ p,Lib.onesCount M=p:=⟨_,rfl⟩;rw [hp] at Ho Ht hl;clear hp
 go_enter Tryz.func192,Tryz.ntmps192
 go_wp2_with (go_at_call 86;refine (Ho.out _).mono ?_;rintro e w' ⟨rfl,rfl⟩)
 go_ret
 exact ⟨by rw [Ht.out];rfl,rfl⟩
def up1 (C:Nat->Nat) (j:Nat):Nat->Nat:=fun i=>if i=j then C i+1 else C i
theorem cN_up (v:Nat->Nat) (k:Nat):(fun x=>cN v x (k+1))=up1 (fun x=>cN v x k) (v k):=by
 funext x
 simp only [cN,up1]
 by_cases h:v k=x
 ·rw [if_pos h,if_pos h.symm]
 ·rw [if_neg h,if_neg (fun e=>h e.symm)]
def kcells (C:Nat->Nat):Array Value:= #[.int .i64 (C 0),.int .i64 (C 1),.int .i64 (C 2),.int .i64 (C 3),.int .i64 (C 4),.int .i64 (C 5),.int .i64 (C 6),.int .i64 (C 7),.int .i64 (C 8),.int .i64 (C 9),.int .i64 (C 10),.int .i64 (C 11),.int .i64 (C 12),.int .i64 (C 13),.int .i64 (C 14),.int .i64 (C 15),.int .i64 (C 16),.int .i64 (C 17),.int .i64 (C 18),.int .i64 (C 19),.int .i64 (C 20),.int .i64 (C 21),.int .i64 (C 22),.int .i64 (C 23),.int .i64 (C 24),.int .i64 (C 25),.int .i64 (C 26),.int .i64 (C 27),.int .i64 (C 28),.int .i64 (C 29),.int .i64 (C 30),.int .i64 (C 31)]
theorem kcells_size (C:Nat->Nat):(kcells C).size=32:=rfl
theorem kcell_at (C:Nat->Nat):∀ {l:Nat},l<32->(kcells C)[l]? =some (.int .i64 (C l))
 |0,_=>rfl
 |1,_=>rfl
 |2,_=>rfl
 |3,_=>rfl
 |4,_=>rfl
 |5,_=>rfl
 |6,_=>rfl
 |7,_=>rfl
 |8,_=>rfl
 |9,_=>rfl
 |10,_=>rfl
 |11,_=>rfl
 |12,_=>rfl
 |13,_=>rfl
 |14,_=>rfl
 |15,_=>rfl
 |16,_=>rfl
 |17,_=>rfl
 |18,_=>rfl
 |19,_=>rfl
 |20,_=>rfl
 |21,_=>rfl
 |22,_=>rfl
 |23,_=>rfl
 |24,_=>rfl
 |25,_=>rfl
 |26,_=>rfl
 |27,_=>rfl
 |28,_=>rfl
 |29,_=>rfl
 |30,_=>rfl
 |31,_=>rfl
 |n+32,h=>absurd h (by omega)
theorem kcells_set (C:Nat->Nat):∀ {l:Nat},l<32->(kcells C).setIfInBounds l (.int .i64 ((C l+1:Nat):Int))=kcells (up1 C l)
 |0,_=>rfl
 |1,_=>rfl
 |2,_=>rfl
 |3,_=>rfl
 |4,_=>rfl
 |5,_=>rfl
 |6,_=>rfl
 |7,_=>rfl
 |8,_=>rfl
 |9,_=>rfl
 |10,_=>rfl
 |11,_=>rfl
 |12,_=>rfl
 |13,_=>rfl
 |14,_=>rfl
 |15,_=>rfl
 |16,_=>rfl
 |17,_=>rfl
 |18,_=>rfl
 |19,_=>rfl
 |20,_=>rfl
 |21,_=>rfl
 |22,_=>rfl
 |23,_=>rfl
 |24,_=>rfl
 |25,_=>rfl
 |26,_=>rfl
 |27,_=>rfl
 |28,_=>rfl
 |29,_=>rfl
 |30,_=>rfl
 |31,_=>rfl
 |n+32,h=>absurd h (by omega)
theorem kone (C:Nat->Nat):(kcells C).all (·.oneCell')=true:=by simp [kcells,Value.oneCell']
def KBox (w:World) (g:Nat) (C:Nat->Nat):Prop:=w.heap[g]? =some (.cells (kcells C) 190)
section
variable {w w' : World} {g : Nat} {C : Nat → Nat}
theorem KBox.lt (h:KBox w g C):g<w.heap.size:=(Array.getElem?_eq_some_iff.1 h).1
theorem KBox.cell (h:KBox w g C) {l:Nat} (hl:l<32):w.cell? ⟨g,l,none⟩=some (.int .i64 (C l)):=
 (cell_of_row _ _ l _ _ (0,0) h).trans (kcell_at C hl)
theorem KBox.frozen (h:KBox w g C) (l:Nat):w.frozen? ⟨g,l,none⟩=false:=by
 unfold World.frozen?;rw [show w.heap[g]? =_ from h]
 simp
theorem KBox.set (h:KBox w g C) {l:Nat} (hl:l<32):KBox (w.setCell ⟨g,l,none⟩ (.int .i64 ((C l:Int)+1))) g (up1 C l):=by
 show KBox (w.setCell ⟨g,l,none⟩ (.int .i64 ((C l+1:Nat):Int))) g (up1 C l)
 unfold KBox;rw [heap_setCell_same w g l _ _ _ h,<-kcells_set C hl]
theorem KBox.below {B:Nat} (h:KBox w g C) (hg:g<B) (hb:Below B w w'):KBox w' g C:=(hb.block g hg).trans h
theorem KBox.other {g' k:Nat} {v:Value} (h:KBox w g C) (hne:g≠g'):KBox (w.setCell ⟨g',k,none⟩ v) g C:=(heap_setCell_other w _ g v hne).trans h
theorem KBox.stored {C':Nat->Nat} (h:KBox w g C):KBox (w.setRow g (kcells C')) g C':=setRow_heap w g _ _ _ _ h
end
theorem kinfo (C:Nat->Nat):(Tryz.prog.info? 190).map (·.size)=some (kcells C).size:=by rw [kcells_size];kernel_rfl
def kzero:Array Value:= #[.int .i64 0,.int .i64 0,.int .i64 0,.int .i64 0,.int .i64 0,.int .i64 0,.int .i64 0,.int .i64 0,.int .i64 0,.int .i64 0,.int .i64 0,.int .i64 0,.int .i64 0,.int .i64 0,.int .i64 0,.int .i64 0,.int .i64 0,.int .i64 0,.int .i64 0,.int .i64 0,.int .i64 0,.int .i64 0,.int .i64 0,.int .i64 0,.int .i64 0,.int .i64 0,.int .i64 0,.int .i64 0,.int .i64 0,.int .i64 0,.int .i64 0,.int .i64 0]
theorem kzero_is:kzero=kcells (fun _=>0):=rfl
def kstart (w:World):World:=(w.alloc (.cells kzero 190)).alloc (.cells kzero 190)
theorem kstart_facts (w:World):KBox (kstart w) (w.heap.size+1) (fun _=>0)/\KBox (kstart w) w.heap.size (fun _=>0)/\Below w.heap.size w (kstart w):=by
 unfold kstart;rw [kzero_is];refine ⟨?_,?_,((Below.refl _ _).alloc (Nat.le_refl _) _).alloc (by simp) _⟩
 ·have:=heap_alloc_new (w.alloc (Obj.cells (kcells (fun _=>0)) 190)) (.cells (kcells (fun _=>0)) 190);simp only [World.size_alloc] at this;exact this
 ·exact (heap_alloc_old _ _ (by simp)).trans (heap_alloc_new w _)
set_option maxHeartbeats 1000000 in
theorem countsOf_any (A:Option Addr) (c n B:Nat) (xs:List Int) (v:Nat->Nat) (w:World) (h:Rd w B A n xs) (hB:B<=w.heap.size) (hn:n<=4) (hv:Hid (∀ k,k<n->nth xs k=(v k:Nat)/\v k<32)):
 Calls Tryz.prog 184 #[.slice A n c] w fun e w'=>e=.returned (.agg (kcells fun x=>cN v x n))/\Below w.heap.size w w':=by
 have Hi:=Lib.hid (fun C=>kinfo C);have Hone:=Lib.hid (fun C=>kone C);obtain ⟨hx0,hy0,hb0⟩:=kstart_facts w;obtain ⟨w0,hw0⟩:∃ w0,kstart w=w0:=⟨_,rfl⟩;rw [hw0] at hx0 hy0 hb0;have Hw:=Lib.hid (show (w.alloc (.cells #[.int .i64 0,.int .i64 0,.int .i64 0,.int .i64 0,.int .i64 0,.int .i64 0,.int .i64 0,.int .i64 0,.int .i64 0,.int .i64 0,.int .i64 0,.int .i64 0,.int .i64 0,.int .i64 0,.int .i64 0,.int .i64 0,.int .i64 0,.int .i64 0,.int .i64 0,.int .i64 0,.int .i64 0,.int .i64 0,.int .i64 0,.int .i64 0,.int .i64 0,.int .i64 0,.int .i64 0,.int .i64 0,.int .i64 0,.int .i64 0,.int .i64 0,.int .i64 0] 190)).alloc (.cells #[.int .i64 0,.int .i64 0,.int .i64 0,.int .i64 0,.int .i64 0,.int .i64 0,.int .i64 0,.int .i64 0,.int .i64 0,.int .i64 0,.int .i64 0,.int .i64 0,.int .i64 0,.int .i64 0,.int .i64 0,.int .i64 0,.int .i64 0,.int .i64 0,.int .i64 0,.int .i64 0,.int .i64 0,.int .i64 0,.int .i64 0,.int .i64 0,.int .i64 0,.int .i64 0,.int .i64 0,.int .i64 0,.int .i64 0,.int .i64 0,.int .i64 0,.int .i64 0] 190)=w0 from hw0)
 clear hw0
 go_enter Tryz.func184,Tryz.ntmps184
 go_wp2
 rw [Hw.out];clear Hw
 go_loopw [8] (fun i wr=>∃ k:Nat,k<=n/\i=.int .i64 k/\Hid (KBox wr (w.heap.size+1) (fun x=>cN v x k))/\Hid (KBox wr w.heap.size (fun _=>0))/\Below w.heap.size w wr) (fun i _=>n-(intOf i).toNat)
 case atStart=>exact ⟨0,Nat.zero_le _,rfl,Lib.hid hx0,Lib.hid hy0,hb0⟩
 case round=>
  obtain ⟨k,hk,rfl,hx,hy,hb⟩:=hrel
  by_cases hlt:k<n
  ·obtain ⟨b,off,rfl,hbB,hck⟩:=(h.below (hb.mono hB)).at_ hlt;obtain ⟨e1,e2⟩:=hv.out k hlt;rw [e1] at hck;obtain ⟨u,hu⟩:∃ u,v k=u:=⟨_,rfl⟩;have hstep:=Lib.hid (cN_up v k);rw [hu] at hck e2 hstep;have hl:=cN_le v u k;obtain ⟨q,hq⟩:∃ q,cN v u k=q:=⟨_,rfl⟩;rw [hq] at hl;have hk1:=hx.out.cell e2;have hf1:=hx.out.frozen u;have hs:=hx.out.set e2;simp only [hq] at hk1 hs;have hs':=Lib.hid hs;have huI:(u:Int)<32:=(by omega);clear hs hu hq e1
   go_wp2
   go_roundw
   case rel=>exact ⟨k+1,by omega,by go_num,Lib.hid (by rw [hstep.out];exact hs'.out),Lib.hid (hy.out.other (by omega)),hb.setCell (p:=(⟨w.heap.size+1,u,none⟩:Addr)) (by simp) _⟩
   case measure=>simp [intOf];omega
  ·obtain rfl:k=n:=by omega
   have hxf:=Lib.hid (KBox.stored (C':=fun x=>cN v x k) hy.out);have hBe:=setRow_below (g:=w.heap.size) (cs:=kcells (fun x=>cN v x k)) hb (Nat.le_refl _)
   go_wp2_with (first|(refine wpList_load_row rfl 190 _ rfl (w.heap.size+1) rfl 190 (kcells (fun x=>cN v x k)) (0,0) _ hx.out Tryz.underlying190 rfl (Hi.out _) ?_)|(refine wpList_store_row rfl 190 _ _ rfl w.heap.size (kcells (fun x=>cN v x k)) rfl rfl 190 (kcells (fun _=>0)) hy.out (Hi.out _) rfl (Hone.out _) ?_))
   refine bodyPost_ret (v:=.agg (kcells (fun x=>cN v x k))) (results_cell_row (by rfl) _ _ w.heap.size 190 _ (0,0) _ rfl hxf.out Tryz.underlying190 rfl (Hi.out _)) rfl ⟨rfl,hBe⟩
theorem kidx (C:Nat->Nat) (w:World):∀ {l:Nat},l<32->(Instr.index 190 (.agg (kcells C)) (.int .i64 ((l:Nat):Int))).run Tryz.prog w=.ok (.int .i64 (C l)) w
 |0,_=>by kernel_rfl
 |1,_=>by kernel_rfl
 |2,_=>by kernel_rfl
 |3,_=>by kernel_rfl
 |4,_=>by kernel_rfl
 |5,_=>by kernel_rfl
 |6,_=>by kernel_rfl
 |7,_=>by kernel_rfl
 |8,_=>by kernel_rfl
 |9,_=>by kernel_rfl
 |10,_=>by kernel_rfl
 |11,_=>by kernel_rfl
 |12,_=>by kernel_rfl
 |13,_=>by kernel_rfl
 |14,_=>by kernel_rfl
 |15,_=>by kernel_rfl
 |16,_=>by kernel_rfl
 |17,_=>by kernel_rfl
 |18,_=>by kernel_rfl
 |19,_=>by kernel_rfl
 |20,_=>by kernel_rfl
 |21,_=>by kernel_rfl
 |22,_=>by kernel_rfl
 |23,_=>by kernel_rfl
 |24,_=>by kernel_rfl
 |25,_=>by kernel_rfl
 |26,_=>by kernel_rfl
 |27,_=>by kernel_rfl
 |28,_=>by kernel_rfl
 |29,_=>by kernel_rfl
 |30,_=>by kernel_rfl
 |31,_=>by kernel_rfl
 |n+32,h=>absurd h (by omega)
theorem kbox_new (w:World) (C:Nat->Nat):KBox (w.alloc (.cells (kcells C) 190)) w.heap.size C:=heap_alloc_new w _
set_option maxHeartbeats 8000000 in
theorem taken_any (C:Nat->Nat) (x:Nat) (w:World) (hC:∀ x,C x<=4):
 Calls Tryz.prog 185 #[.agg (kcells C),.int .i64 x] w fun e w'=>e=.returned (.int .i64 (tkF C x 32:Nat))/\Below w.heap.size w w':=by
 have hx0:=Lib.hid (kbox_new w C);have hb0:Below w.heap.size w (w.alloc (.cells (kcells C) 190)):=(Below.refl _ _).alloc (Nat.le_refl _) _;have Hi:=Lib.hid (kinfo C);have HP:=Lib.hid (fun K w' (h:K<32)=>pairMask_any K h w');have Hidx0:=Lib.hid (fun w' (l:Nat) (h:l<32)=>kidx C w' h);obtain ⟨V,hV⟩:∃ V,V=Value.agg (kcells C):=⟨_,rfl⟩;have Hidx:Hid (∀ (w':World) (l:Nat),l<32->(Instr.index 190 V (.int .i64 ((l:Nat):Int))).run Tryz.prog w'=.ok (.int .i64 (C l)) w'):=Lib.hid (by rw [hV];exact Hidx0.out);have HV:=Lib.hid hV;clear hV Hidx0
 go_enter Tryz.func185,Tryz.ntmps185
 go_wp2_with (refine wpList_load_row rfl 190 _ rfl w.heap.size rfl 190 (kcells C) (0,0) _ hx0.out Tryz.underlying190 rfl Hi.out ?_;rw [<- HV.out])
 go_loopw [5,9] (fun q i wr=>∃ k:Nat,k<=32/\i=.int .i64 k/\q=.int .i64 (tkF C x k:Nat)/\Below w.heap.size w wr) (fun _ i _=>32-(intOf i).toNat)
 case atStart=>exact ⟨0,Nat.zero_le _,rfl,rfl,hb0⟩
 case round=>
  obtain ⟨k,hk,rfl,rfl,hb⟩:=hrel;have hle:=tkF_lt C x k (by omega)
  by_cases hlt:k<32
  ·have hlI:(k:Int)<32:=by omega
   have hix:=Hidx.out wr k hlt;have h4:=hC k;obtain ⟨p,hp⟩:∃ p,tkF C x k=p:=⟨_,rfl⟩;have hor:=i64_or_nat p k (by omega) (by omega);rw [hp] at hle;obtain ⟨q,hq⟩:∃ q,C k=q:=⟨_,rfl⟩;have htk:tkC C x k=(two k&&(decide (2<q)||(q==2&&k != x))):=(by rw [<- hq];rfl);have Hs:=Lib.hid (show tkF C x (k+1)=if (two k&&(decide (2<q)||(q==2&&k != x)))=true then p|||k else p by simp only [tkF];rw [htk,hp]);rw [hq] at h4 hix;rw [hp];clear hp hq htk;cases h2:two k
   ·have Hs':=Lib.hid (show tkF C x (k+1)=p by rw [Hs.out,h2];rfl);clear hor
    go_wp2_with (go_at_call 192;refine (HP.out k _ hlt).mono ?_;rintro e w3 ⟨rfl,rfl⟩;rw [h2])
    go_roundw
    case rel=>exact ⟨k+1,by omega,by go_num,by rw [Hs'.out],hb⟩
    case measure=>simp [intOf];omega
   ·by_cases hq2:2<q
    ·have hI:(2:Int)<(q:Int):=(by omega);have Hs':=Lib.hid (show tkF C x (k+1)=p|||k by rw [Hs.out,h2];simp [hq2]);clear Hs
     go_wp2_with (go_at_call 192;refine (HP.out k _ hlt).mono ?_;rintro e w3 ⟨rfl,rfl⟩;rw [h2])
     go_roundw
     case rel=>exact ⟨k+1,by omega,by go_num,by rw [Hs'.out],hb⟩
     case measure=>simp [intOf];omega
    ·have hI:¬ (2:Int)<(q:Int):=(by omega)
     by_cases hqe:q=2
     ·have hq2I:(q:Int)=2:=(by omega);rw [hq2I] at hix;clear hI hq2I
      by_cases hkx:k=x
      ·have hne:((k:Int) != (x:Int))=false:=(by simp;omega);have Hs':=Lib.hid (show tkF C x (k+1)=p by rw [Hs.out,h2];simp [hq2,hkx]);clear Hs hor hqe hkx hq2
       go_wp2_with (go_at_call 192;refine (HP.out k _ hlt).mono ?_;rintro e w3 ⟨rfl,rfl⟩;rw [h2])
       go_roundw
       case rel=>exact ⟨k+1,by omega,by go_num,by rw [Hs'.out],hb⟩
       case measure=>simp [intOf];omega
      ·have hne:((k:Int) != (x:Int))=true:=(by simp;omega);have Hs':=Lib.hid (show tkF C x (k+1)=p|||k by rw [Hs.out,h2];simp [hqe,hkx]);clear Hs hqe hkx hq2
       go_wp2_with (go_at_call 192;refine (HP.out k _ hlt).mono ?_;rintro e w3 ⟨rfl,rfl⟩;rw [h2])
       go_roundw
       case rel=>exact ⟨k+1,by omega,by go_num,by rw [Hs'.out],hb⟩
       case measure=>simp [intOf];omega
     ·have hq01:(q:Int)=0\/(q:Int)=1:=(by omega);have Hs':=Lib.hid (show tkF C x (k+1)=p by rw [Hs.out,h2];simp [hq2,hqe]);clear Hs hor hI hq2 hqe
      rcases hq01 with e01|e01
      all_goals
       rw [e01] at hix;clear e01
       go_wp2_with (go_at_call 192;refine (HP.out k _ hlt).mono ?_;rintro e w3 ⟨rfl,rfl⟩;rw [h2])
       go_roundw
       case rel=>exact ⟨k+1,by omega,by go_num,by rw [Hs'.out],hb⟩
       case measure=>simp [intOf];omega
  ·obtain rfl:k=32:=by omega
   go_wp2
   go_ret
   exact ⟨rfl,hb⟩
theorem line_in7 {s u:Nat} (hs:s∈[2,3,4]) (hu:u<2*s):∀ j,j<s->∃ q:Nat,lineAt s u j=(q:Int)/\lcN s u j=q/\q<s*s:=by
 intro j hj;have h:=line_at hs hu j hj
 have h0:0<=lineAt s u j:=by
  simp at hs
  by_cases hx:(u:Int)<(s:Int)
  ·rw [lineAt_row hx]
   rcases hs with rfl|rfl|rfl<;>omega
  ·rw [lineAt_col hx]
   rcases hs with rfl|rfl|rfl<;>omega
 exact ⟨(lineAt s u j).toNat,by omega,rfl,h⟩
theorem lineTo_small {s u:Nat} (hs:s∈[2,3,4]) (hu:u<2*s):∀ i,i<s->0<=nth (lineTo s u s) i/\nth (lineTo s u s) i<((s*s:Nat):Int):=fun i hi=>by
 obtain ⟨q,e,_,hq⟩:=line_in7 hs hu i hi;rw [lineTo_nth hi,e];omega
theorem pks_line {m:List Int} {s u:Nat} {S:Int} (hm:mvd m S=true):∀ k,k<s->nth (pks m (lineTo s u s) s) k=(lv m s u k:Nat)/\lv m s u k<32:=fun k hk=>by
 refine ⟨?_,lv_lt hm k⟩;unfold pks;rw [mapTo_nth hk,lineTo_nth hk];exact lv_int hm k
theorem lineCells_line {f:Nat} {s u:Nat} {w:World} (hs:s∈[2,3,4]) (hu:u<2*s) (h:Calls Tryz.prog f #[.int .i64 s,.int .i64 u] w (RetSl w (lineL s u))):
 Calls Tryz.prog f #[.int .i64 s,.int .i64 u] w fun e w''=>∃ A3 c3,e=.returned (.slice A3 s c3)/\Ow w'' w.heap.size A3 s c3 (lineTo s u s)/\Below w.heap.size w w'':=by
 refine h.mono ?_;rintro e w'' ⟨A3,c3,rfl,ho3,hb3⟩
 have e1:lineL s u=lineTo s u s:=by
  have:lineOk s u=true:=by simp [lineOk,inr];simp at hs;omega
  simp [lineL,this]
 rw [e1,lineTo_length] at ho3;rw [e1,lineTo_length];exact ⟨A3,c3,rfl,ho3,hb3⟩
theorem npL_gU {m:List Int} {s:Nat} (hs:s∈[2,3,4]) (hm:mvd m s=true):npL m s=gU m s (2*s):=by
 unfold npL;rw [if_pos hm,Int.toNat_natCast,gU_is hs hm _ (Nat.le_refl _)]
theorem gU_sub {m:List Int} {s:Nat} (hs:s∈[2,3,4]) (hm:mvd m s=true) (u:Nat) (hu:u<=2*s):Sub (gU m s u) m:=by
 rw [gU_is hs hm u hu];exact pU_sub hm u
theorem an_sub32 {x:Int} {y:Nat} (hx:0<=x/\x<=30/\x.tmod 2=0) (hy:y<32):0<=bits .andNot .i64 x y/\bits .andNot .i64 x y<=x/\(bits .andNot .i64 x y).tmod 2=0:=by
 obtain ⟨a,rfl⟩:=Int.eq_ofNat_of_zero_le hx.1;obtain ⟨q1,q2,q3⟩:=an_key a (by omega) y hy;exact ⟨q1,q2,q3 (by have:=hx.2.2;rw [Int.tmod_eq_emod_of_nonneg (by omega)] at this;omega)⟩
theorem gL_sub {m o:List Int} {s u:Nat} {S:Int} {C:Nat->Nat} (hm:mvd m S=true) (h:Sub o m) (k:Nat):Sub (gL m s u C o k) m:=by
 induction k with
 |zero=>exact h
 |succ k ih=>
  simp only [gL]
  exact ih.put fun hk=>by
   obtain ⟨h1,h2⟩:=ih.at_ hm hk;obtain ⟨q1,q2,q3⟩:=an_sub32 h1 (tkF_lt C (lv m s u k) 32 (Nat.le_refl _));exact ⟨q1,by omega,q3⟩
def npG (g q n cc bm om c:Nat) (C:Nat->Nat) (X:Int) (y tk:Nat) (z:Int):Nat->Value->Prop
 |0,v=>v=.slice (some ⟨g,0,none⟩) n cc
 |1,v=>v=.int .i64 q
 |2,v=>v=.pointer (some ⟨g,q,none⟩)
 |3,v=>v=.int .i64 X
 |4,v=>v=.agg (kcells C)
 |5,v=>v=.slice (some ⟨bm,om,none⟩) n c
 |6,v=>v=.int .i64 q
 |7,v=>v=.pointer (some ⟨bm,om+q,none⟩)
 |8,v=>v=.int .i64 y
 |9,v=>v=.int .i64 tk
 |10,v=>v=.int .i64 z
 |11,v=>v=.pointer (some ⟨g,q,none⟩)
 |_,_=>True
theorem kload (C:Nat->Nat) (g:Nat) (w:World) (h:KBox w g C):(Instr.loadAt 190 (.pointer (some ⟨g,0,none⟩))).run Tryz.prog w=.ok (.agg (kcells C)) w:=by
 simp only [Instr.loadAt,Instr.sureAddr,Sem.run_bind,Sem.run_pure,Result.andThen_ok,run_loadVar_row w g 190 190 (kcells C) (0,0) _ h Tryz.underlying190 rfl (kinfo C)]
theorem kput (w:World) (C:Nat->Nat) (W:World) (h:(w.alloc (.cells #[.int .i64 0,.int .i64 0,.int .i64 0,.int .i64 0,.int .i64 0,.int .i64 0,.int .i64 0,.int .i64 0,.int .i64 0,.int .i64 0,.int .i64 0,.int .i64 0,.int .i64 0,.int .i64 0,.int .i64 0,.int .i64 0,.int .i64 0,.int .i64 0,.int .i64 0,.int .i64 0,.int .i64 0,.int .i64 0,.int .i64 0,.int .i64 0,.int .i64 0,.int .i64 0,.int .i64 0,.int .i64 0,.int .i64 0,.int .i64 0,.int .i64 0,.int .i64 0] 190)).setRow w.heap.size (kcells C)=W):KBox W w.heap.size C/\Below w.heap.size w W:=by
 rw [<- h];exact ⟨setRow_heap _ _ _ _ _ _ (heap_alloc_new w (.cells (kcells fun _=>0) 190)),setRow_below ((Below.refl _ _).alloc (Nat.le_refl _) _) (Nat.le_refl _)⟩
theorem kz_new (w:World):(w.alloc (.cells #[.int .i64 0,.int .i64 0,.int .i64 0,.int .i64 0,.int .i64 0,.int .i64 0,.int .i64 0,.int .i64 0,.int .i64 0,.int .i64 0,.int .i64 0,.int .i64 0,.int .i64 0,.int .i64 0,.int .i64 0,.int .i64 0,.int .i64 0,.int .i64 0,.int .i64 0,.int .i64 0,.int .i64 0,.int .i64 0,.int .i64 0,.int .i64 0,.int .i64 0,.int .i64 0,.int .i64 0,.int .i64 0,.int .i64 0,.int .i64 0,.int .i64 0,.int .i64 0] 190)).heap[w.heap.size]? =some (.cells (kcells fun _=>0) 190 (0,0)):=heap_alloc_new w (.cells (kcells fun _=>0) 190)
set_option maxHeartbeats 2000000 in
theorem implNarrowPairs (A:Option Addr) (c n B:Nat) (m:List Int) (size:Int) (w:World) (h:Rd w B A n m) (hm64:B64 m) (hBm:B<=w.heap.size) (hm:n<=1099511627776) (hsb: -9223372036854775808<=size/\size<=9223372036854775807):
 Calls Tryz.prog 172 #[.slice A n c,.int .i64 size] w (RetSl w (npL m size)):=by
 have hlen:=Lib.hid h.1;have HV:=Lib.hid (implMasksValid A c n B m size w h hm64 hBm hm hsb);cases hv:mvd m size
 ·have HL:=Lib.hid (show npL m size=[] by simp [npL,hv])
  go_enter Tryz.func172,Tryz.ntmps172
  go_wp2_with (go_at_call 67;refine HV.out.mono ?_;rintro e w1 ⟨rfl,hb1⟩;rw [hv])
  go_ret
  rw [HL.out];exact ⟨_,_,rfl,Ow.nil_ _ _,hb1⟩
 ·obtain ⟨⟨s2,s4⟩,hsq,hn16,_⟩:=mvd_at hv;obtain ⟨s,rfl⟩:=Int.eq_ofNat_of_zero_le (by omega:0<=size)
  have hs:s∈[2,3,4]:=by simp;omega
  have hn:n=s*s:=by rw [<- hlen.out];exact len_of hs hv
  have hn0:0<n:=by
   simp at hs
   rcases hs with rfl|rfl|rfl<;>omega
  have Hs:=Lib.hid hs;have Hn:=Lib.hid hn;have Hv:=Lib.hid hv
  have hs2':2<=s:=by omega
  have hs4':s<=4:=by omega
  have HCl:=Lib.hid (fun w' (hb:Below w.heap.size w w')=>clone_any A n c B m w' (h.below (hb.mono hBm)) (Nat.le_trans hBm hb.size) hn0 hm);have HF:=Lib.hid (npL_gU hs hv);obtain ⟨T,hT⟩:∃ T,T=2*s:=⟨_,rfl⟩;rw [<- hT] at HF;have HT:=Lib.hid hT
  have hT8:T<=8:=by omega
  clear hs hn hT hsq hn16
  go_enter Tryz.func172,Tryz.ntmps172
  go_wp2_with (first
   |(go_at_call 67;refine HV.out.mono ?_;rintro e w1 ⟨rfl,hb1⟩;rw [Hv.out])
   |(go_at_call 61;refine (HCl.out _ hb1).mono ?_;rintro e w2 ⟨Ac,cc,rfl,ho2,hb2⟩;have hb12:=step hb1 hb2))
  have ho3:=ho2.mono hb1.size;obtain ⟨g,rfl,hgl,hgw⟩:=ho3.form hn0
  go_loopw [19] (fun i wr=>∃ u:Nat,u<=T/\i=.int .i64 u/\Ow wr w.heap.size (some ⟨g,0,none⟩) n cc (gU m s u)/\Below w.heap.size w wr) (fun i _=>T-(intOf i).toNat)
  case atStart=>exact ⟨0,Nat.zero_le _,rfl,ho3,hb12⟩
  case round=>
   clear ho2 ho3 hb12 hb1 hb2;obtain ⟨u,hu,rfl,ho,hb⟩:=hrel
   by_cases hlt:u<T
   ·have hltI:(u:Int)<2*(s:Int):=(by have:=HT.out;omega);have hu2:=Lib.hid (show u<2*s by have:=HT.out;omega);have HLc:=Lib.hid (lineCells_line Hs.out hu2.out (implLineCells s u wr ⟨by omega,by omega⟩));have HPk:=Lib.hid (fun w' (hb:Below w.heap.size w w') A3 c3 (ho:Ow w' w.heap.size A3 s c3 (lineTo s u s))=>implPick A c n B m A3 c3 s w'.heap.size (lineTo s u s) w' (h.below (hb.mono hBm)) ho.rd (Nat.le_trans hBm hb.size) (Nat.le_refl _) (by omega) (by rw [Hn.out];exact lineTo_small Hs.out hu2.out));have HCo:=Lib.hid (fun w' A4 c4 (hr:Rd w' w'.heap.size A4 s (pks m (lineTo s u s) s))=>countsOf_any A4 c4 s w'.heap.size _ (lv m s u) w' hr (Nat.le_refl _) (by omega) (Lib.hid (pks_line Hv.out)))
    obtain ⟨C,hC⟩:∃ C:Nat->Nat,C=fun x=>cN (lv m s u) x s:=⟨_,rfl⟩
    have hC4:=Lib.hid (show ∀ x,C x<=4 by rw [hC];intro x;exact Nat.le_trans (cN_le (lv m s u) x s) hs4');have HG:=Lib.hid (show gU m s (u+1)=gL m s u C (gU m s u) s by rw [hC];rfl);rw [<- hC] at HCo;have Hi:=Lib.hid (kinfo C);have Hone:=Lib.hid (kone C);have Hz:=Lib.hid (fun w'=>kz_new w');have Hpl:=Lib.hid (show (pks m (lineTo s u s) s).length=s from mapTo_length _ _);have hat:=Lib.hid (line_in7 Hs.out hu2.out);rw [<- Hn.out] at hat;have Hsub:=Lib.hid (fun k=>gL_sub (s:=s) (u:=u) (C:=C) Hv.out (gU_sub Hs.out Hv.out u (by have:=hu2.out;omega)) k);clear hC
    go_wp2_with (first
     |(go_at_call 183;refine HLc.out.mono ?_;rintro e w3 ⟨A3,c3,rfl,ho3',hb3⟩;have hb13:=step hb hb3;have ho3:=ho3'.mono hb.size;have ho3g:=ho3'.mono (show g+1<=wr.heap.size from ho.own_hi g rfl);clear ho3';have hoA:=ho.below hb3)
     |(go_at_call 166;refine (HPk.out _ hb13 _ _ ho3).mono ?_;rintro e w4 ⟨A4,c4,rfl,ho4,hb4⟩;rw [Hpl.out] at ho4 ⊢;have hb14:=step hb13 hb4;have hr4:=ho4.rd;have ho34:=ho3g.below hb4;have hoB:=hoA.below hb4)
     |(go_at_call 184;refine (HCo.out _ _ _ hr4).mono ?_;rintro e w5 ⟨rfl,hb5⟩;have hb15:=step hb14 hb5;have ho35:=ho34.below hb5;have hoC:=hoB.below hb5;have hw5:=hb15.size;have hgw5:=hoC.own_hi g rfl)
     |(refine wpList_store_row rfl 190 _ _ rfl w5.heap.size (kcells C) rfl rfl 190 (kcells fun _=>0) (Hz.out w5) Hi.out rfl Hone.out ?_;generalize hW5:World.setRow _ _ _=W5;obtain ⟨hkb0,hbW⟩:=kput w5 C W5 hW5;clear hW5;obtain ⟨gk,hgk⟩:∃ gk,w5.heap.size=gk:=⟨_,rfl⟩;have hkb:=Lib.hid hkb0;clear hkb0;have hb16:=step hb15 hbW;have ho36:=ho35.below hbW;have hoD:=hoC.below hbW;rw [hgk] at hkb ⊢;rw [hgk] at hgw5))
    go_loopw [31] (fun i wr=>∃ k:Nat,k<=s/\i=.int .i64 k/\Ow wr w.heap.size (some ⟨g,0,none⟩) n cc (gL m s u C (gU m s u) k)/\Ow wr (g+1) A3 s c3 (lineTo s u s)/\Hid (KBox wr gk C)/\Below w.heap.size w wr) (fun i _=>s-(intOf i).toNat)
    case atStart=>exact ⟨0,Nat.zero_le _,rfl,hoD,ho36,hkb,hb16⟩
    case round=>
     clear hoD ho36 hkb hb16;obtain ⟨k,hk,rfl,hoN,hoL,hkb,hbN⟩:=hrel
     by_cases hks:k<s
     ·obtain ⟨q,hq,hqc,hqn⟩:=hat.out k hks;obtain ⟨g3,rfl,_,_⟩:=hoL.form (by omega);obtain ⟨hcl,_⟩:=hoL.cell hks;rw [lineTo_nth hks,hq] at hcl;obtain ⟨bm,offm,hA,hbmB,hcm⟩:=(h.below (hbN.mono hBm)).at_ hqn;subst hA;obtain ⟨hcn,hfn⟩:=hoN.cell hqn;have hvq:=lv_int (S:=(s:Int)) (u:=(u:Int)) Hv.out k;rw [hqc] at hvq;rw [hvq] at hcm;have hv32:=lv_lt (S:=(s:Int)) (u:=(u:Int)) Hv.out k;have HTk:=Lib.hid (fun w'=>taken_any C (lv m s u k) w' hC4.out);obtain ⟨X,hX⟩:∃ X,nth (gL m s u C (gU m s u) k) q=X:=⟨_,rfl⟩;obtain ⟨y,hy⟩:∃ y,lv m s u k=y:=⟨_,rfl⟩
      obtain ⟨tk,htk⟩:∃ tk,tkF C y 32=tk:=⟨_,rfl⟩;obtain ⟨z,hz⟩:∃ z,bits .andNot .i64 X (tk:Int)=z:=⟨_,rfl⟩;have HG1:=Lib.hid (show gL m s u C (gU m s u) (k+1)=(gL m s u C (gU m s u) k).set q z by simp only [gL];rw [hqc,hX,hy,htk,hz]);rw [hX] at hcn;rw [hy] at hcm hv32 HTk;rw [htk] at HTk;have Hz':=Lib.hid hz;have hgN:=hoN.own_hi g rfl;have hgkN:=hkb.out.lt;have hqI:(q:Int)<(n:Int):=(by omega);have hbmN:bm<wr.heap.size:=Nat.lt_of_lt_of_le hbmB (Nat.le_trans hBm hbN.size);have HoN:=Lib.hid hoN;have HoL:=Lib.hid hoL;clear hX hy htk hz hoN hoL hvq
      go_wp2
      refine wp_region_dsS [35,36,37,38,39,40,41,42,43,44,45,46] (fun j v _=>npG g q n cc bm offm c C X y tk z j v) (fun w1 w2=>Below w1.heap.size w1 w2) (fun _ _ _=>True) (fun _ _=>True) (fun _=>trivial) (below_drewN (Below.refl _ _) 1) (fun _ _ h h'=>step h h') (by kernel_rfl) (by kernel_rfl) (by simp) (fun _ _ _ _ _ _ _ _ h=>h) ?step ?last
      case step=>
       intro i o a w' K D hD hcl2 hi hoo hrel hfr hpre hC hK;have e0:a.eval (.tmp 0)=.slice (some ⟨bm,offm,none⟩) n c:=hfr 0 (by simp);have e5:a.eval (.tmp 5)=.slice (some ⟨g,0,none⟩) n cc:=hfr 5 (by simp);have e8:a.eval (.tmp 8)=.pointer (some ⟨gk,0,none⟩):=hfr 8 (by simp);have e10:a.eval (.tmp 10)=.int .i64 q:=hfr 10 (by simp)
       have hkeep:∀ (v:Value),npG g q n cc bm offm c C X y tk z i v->K (a.put o.dst v) w':=fun v hv=>hK v w' (Below.refl _ _) trivial (fun j _ _ h=>h) hv
       have hkw:KBox w' gk C:=hkb.out.below hgkN hrel;have hcn':w'.cell? ⟨g,q,none⟩=some (.int .i64 X):=(hrel.cell (p:=⟨g,q,none⟩) hgN).trans hcn;have hcm':w'.cell? ⟨bm,offm+q,none⟩=some (.int .i64 y):=(hrel.cell (p:=⟨bm,offm+q,none⟩) hbmN).trans hcm;have hi12:i<12:=hi;have:i=0\/i=1\/i=2\/i=3\/i=4\/i=5\/i=6\/i=7\/i=8\/i=9\/i=10\/i=11:=(by omega)
       rcases this with rfl|rfl|rfl|rfl|rfl|rfl|rfl|rfl|rfl|rfl|rfl|rfl
       all_goals
        simp only [List.getElem?_toArray,List.getElem?_cons_zero,List.getElem?_cons_succ,Option.some.injEq] at hoo;subst hoo
       ·refine oper_val (v:=.slice (some ⟨g,0,none⟩) n cc) (w':=w') ?_ (hkeep _ rfl);unfold execOp;simp only [e5]
        go_simp
       ·refine oper_val (v:=.int .i64 q) (w':=w') ?_ (hkeep _ rfl);unfold execOp;simp only [e10]
        go_simp
       ·have p0:a.eval (.tmp 35)=.slice (some ⟨g,0,none⟩) n cc:=hpre ⟨0,.data⟩ (by simp) rfl;have p1:a.eval (.tmp 36)=.int .i64 q:=hpre ⟨1,.data⟩ (by simp) rfl;refine oper_val (v:=.pointer (some ⟨g,q,none⟩)) (w':=w') ?_ (hkeep _ rfl);unfold execOp;simp only [p0,p1]
        go_simp
       ·have p2:a.eval (.tmp 37)=.pointer (some ⟨g,q,none⟩):=hpre ⟨2,.data⟩ (by simp) rfl;refine oper_val (v:=.int .i64 X) (w':=w') ?_ (hkeep _ rfl);unfold execOp;simp only [p2]
        go_simp
       ·refine oper_val (v:=.agg (kcells C)) (w':=w') ?_ (hkeep _ rfl);unfold execOp;simp only [e8,kload C gk w' hkw,Sem.run_bind,Result.andThen_ok,Sem.run_pure]
       ·refine oper_val (v:=.slice (some ⟨bm,offm,none⟩) n c) (w':=w') ?_ (hkeep _ rfl);unfold execOp;simp only [e0]
        go_simp
       ·refine oper_val (v:=.int .i64 q) (w':=w') ?_ (hkeep _ rfl);unfold execOp;simp only [e10]
        go_simp
       ·have p0:a.eval (.tmp 40)=.slice (some ⟨bm,offm,none⟩) n c:=hpre ⟨5,.data⟩ (by simp) rfl;have p1:a.eval (.tmp 41)=.int .i64 q:=hpre ⟨6,.data⟩ (by simp) rfl;refine oper_val (v:=.pointer (some ⟨bm,offm+q,none⟩)) (w':=w') ?_ (hkeep _ rfl);unfold execOp;simp only [p0,p1]
        go_simp
       ·have p2:a.eval (.tmp 42)=.pointer (some ⟨bm,offm+q,none⟩):=hpre ⟨7,.data⟩ (by simp) rfl;refine oper_val (v:=.int .i64 y) (w':=w') ?_ (hkeep _ rfl);unfold execOp;simp only [p2]
        go_simp
       ·have p0:a.eval (.tmp 39)=.agg (kcells C):=hpre ⟨4,.data⟩ (by simp) rfl;have p1:a.eval (.tmp 43)=.int .i64 y:=hpre ⟨8,.data⟩ (by simp) rfl;refine oper_call (f:=185) (args:= #[.agg (kcells C),.int .i64 y]) ?_ (HTk.out w') ?_
        ·unfold execOp
         go_simp
         exact ⟨by simpa [Act.eval] using p0,by simpa [Act.eval] using p1⟩
        ·rintro e w8 ⟨rfl,hb8⟩;exact ⟨_,rfl,hK _ w8 hb8 trivial (fun j _ _ h=>h) rfl⟩
       ·have p0:a.eval (.tmp 38)=.int .i64 X:=hpre ⟨3,.data⟩ (by simp) rfl;have p1:a.eval (.tmp 44)=.int .i64 tk:=hpre ⟨9,.data⟩ (by simp) rfl;refine oper_val (v:=.int .i64 z) (w':=w') ?_ (hkeep _ rfl);unfold execOp;simp only [p0,p1]
        go_simp
        exact Hz'.out
       ·have p0:a.eval (.tmp 35)=.slice (some ⟨g,0,none⟩) n cc:=hpre ⟨0,.data⟩ (by simp) rfl;have p1:a.eval (.tmp 36)=.int .i64 q:=hpre ⟨1,.data⟩ (by simp) rfl;refine oper_val (v:=.pointer (some ⟨g,q,none⟩)) (w':=w') ?_ (hkeep _ rfl);unfold execOp;simp only [p0,p1]
        go_simp
      case last=>
       intro o a w5 hoo hrel hdef htm hfr hpre;simp only [List.length_cons,List.length_nil,Nat.reduceAdd,List.getElem?_toArray,List.getElem?_cons_zero,List.getElem?_cons_succ,Option.some.injEq] at hoo;subst hoo;have g0:a.tmps.getD 35 undef=.slice (some ⟨g,0,none⟩) n cc:=hpre 0 (by simp);have g1:a.tmps.getD 36 undef=.int .i64 q:=hpre 1 (by simp);have g2:a.tmps.getD 37 undef=.pointer (some ⟨g,q,none⟩):=hpre 2 (by simp);have g3:a.tmps.getD 38 undef=.int .i64 X:=hpre 3 (by simp);have g4:a.tmps.getD 39 undef=.agg (kcells C):=hpre 4 (by simp);have g5:a.tmps.getD 40 undef=.slice (some ⟨bm,offm,none⟩) n c:=hpre 5 (by simp)
       have g6:a.tmps.getD 41 undef=.int .i64 q:=hpre 6 (by simp);have g7:a.tmps.getD 42 undef=.pointer (some ⟨bm,offm+q,none⟩):=hpre 7 (by simp);have g8:a.tmps.getD 43 undef=.int .i64 y:=hpre 8 (by simp);have g9:a.tmps.getD 44 undef=.int .i64 tk:=hpre 9 (by simp);have g10:a.tmps.getD 45 undef=.int .i64 z:=hpre 10 (by simp);have g11:a.tmps.getD 46 undef=.pointer (some ⟨g,q,none⟩):=hpre 11 (by simp);have h45:a.eval (.tmp 45)=.int .i64 z:=g10;have h46:a.eval (.tmp 46)=.pointer (some ⟨g,q,none⟩):=g11;have ho5:=HoN.out.below hrel;obtain ⟨hc5,hf5⟩:=ho5.cell hqn;have hop:=Lib.hid (ho5.putN q z);have hb5:=Lib.hid (Below.setCell (p:=(⟨g,q,none⟩:Addr)) (hbN.trans (hrel.mono hbN.size)) hgl (.int .i64 z));have hL5:=Lib.hid (HoL.out.below hrel);have hk5:=Lib.hid (hkb.out.below hgkN hrel);refine ⟨w5.setCell ⟨g,q,none⟩ (.int .i64 z),?_,?_⟩
       ·unfold execOp;simp only [h45,h46]
        go_simp
       ·have key:=htm;simp only [List.foldl_cons,List.foldl_nil,g0,g1,g2,g3,g4,g5,g6,g7,g8,g9,g10,g11,List.setIfInBounds_toArray,List.set_cons_succ,List.set_cons_zero] at key;clear htm hfr hpre g0 g1 g2 g3 g4 g5 g6 g7 g8 g9 g10 g11 h45 h46;obtain ⟨tm,df⟩:=a
        dsimp only at key hdef
        subst key hdef;clear hc5 hf5 ho5
        go_wp2
        go_roundw
        case rel=>exact ⟨k+1,by omega,by go_num,by rw [HG1.out];exact hop.out,hL5.out.far grown_set (fun b hb e=>by have h1:=hL5.out.own_lo b hb;injection e with e;omega),Lib.hid (hk5.out.other (by omega)),hb5.out⟩
        case measure=>simp [intOf];omega
     ·obtain rfl:k=s:=by omega
      go_wp2
      go_roundw
      case rel=>exact ⟨u+1,by omega,by go_num,by rw [HG.out];exact hoN,hbN⟩
      case measure=>simp [intOf];omega
   ·obtain rfl:u=T:=by omega
    have hgeI:¬ (u:Int)<2*(s:Int):=(by have:=HT.out;omega)
    go_wp2
    go_ret
    rw [HF.out];exact retSl_mk ho hb
theorem b64_mvd {m:List Int} {s:Int} (h:mvd m s=true):B64 m:=fun k=>by
 obtain ⟨a,b,_⟩:=mvd_nth h k;omega
theorem tabi:(Tryz.prog.info? 131).map (·.size)=some 21:=by kernel_rfl
theorem tcells_one (F:Nat->Nat) (A:Option Addr) (n c:Nat):(tcells F A n c).all (·.oneCell')=true:=by simp [tcells,Value.oneCell']
set_option maxHeartbeats 2000000 in
theorem narrowedByRules_any (s L Br:Nat) (At:Option Addr) (nt ct Bt:Nat) (rs:List RuleM) (A:Option Addr) (c nm B:Nat) (m:List Int) (w:World) (hTb:TbR w L Bt Br s rs At nt) (hBt:Bt<=w.heap.size) (hBr:Br<=Bt) (h:Rd w B A nm m) (hBm:B<=w.heap.size) (hs:s∈[2,3,4]) (hm:mvd m s=true) (hr:∀ i,i<nt->rvR s (rat rs i)=true) (hnt:nt<=20):
 Calls Tryz.prog 173 #[.agg #[.int .i64 s,.slice At nt ct],.slice A nm c] w (RetSl w (nrTo s rs m nt)):=by
 have hlen:=Lib.hid h.1;obtain ⟨⟨s2,s4⟩,hsq,hnm16,_⟩:=mvd_at hm;rw [h.1] at hsq hnm16
 have hnm0:0<nm:=by
  simp at hs
  rcases hs with rfl|rfl|rfl<;>omega
 obtain ⟨Wa,hWa⟩:∃ Wa,w.alloc (.cells #[.int .i64 s,.slice At nt ct] 78)=Wa:=⟨_,rfl⟩
 have hba:Below w.heap.size w Wa:=by rw [<- hWa];exact (Below.refl _ _).alloc (Nat.le_refl _) _
 have hsa:Wa.heap.size=w.heap.size+1:=by rw [<- hWa];simp
 have hra:Wa.heap[w.heap.size]? =some (.cells #[.int .i64 s,.slice At nt ct] 78):=by rw [<- hWa];exact heap_alloc_new w _
 have HCl:=Lib.hid (clone_any A nm c B m Wa (h.below (hba.mono hBm)) (by omega) hnm0 (by omega));have HS:=Lib.hid (fun u (hu:u<=nt)=>nrTo_sub (rs:=rs) hm (fun i hi=>hr i (by rw [<- hTb.1];exact hi)) u (by rw [hTb.1];exact hu));have HR:=Lib.hid hr;have Hm:=Lib.hid hm;have Hsq:=Lib.hid hsq;have HTb:=Lib.hid hTb;have hntl:=hTb.1;have HBa:=Lib.hid hba;clear hm hr hsq hTb hba
 go_enter Tryz.func173,Tryz.ntmps173
 go_wp2_with (go_at_call 61;refine HCl.out.mono ?_;rintro e w1 ⟨A1,c1,rfl,ho1,hb1⟩;have hr1:=(hb1.block w.heap.size (by omega)).trans hra;have hc1:=cell_of_row _ _ 1 _ _ (0,0) hr1)
 obtain ⟨g,rfl,hgl,hgw⟩:=ho1.form hnm0;have HB1:=Lib.hid (step HBa.out hb1);have hb1s:=hb1.size;clear hr1 hc1 hra hb1
 go_loopw [13] (fun i wr=>∃ u:Nat,u<=nt/\i=.int .i64 u/\Ow wr Wa.heap.size (some ⟨g,0,none⟩) nm c1 (nrTo s rs m u)/\w1.grownBy wr (some g)) (fun i _=>nt-(intOf i).toNat)
 case atStart=>exact ⟨0,Nat.zero_le _,rfl,ho1,World.grownBy.refl _ _⟩
 case round=>
  clear ho1;obtain ⟨u,hu,rfl,ho,hg⟩:=hrel
  by_cases hlt:u<nt
  ·have hltI:(u:Int)<(nt:Int):=by omega
   have hbr:Below w.heap.size w wr:=HB1.out.grown hg HB1.out.size (fun k e=>by have:=Option.some.inj e;omega);obtain ⟨b,rfl,_,hbB,hcc⟩:=(HTb.out.below (hbr.mono hBt) hBr).2 (by omega);obtain ⟨A',C',hrg,hrd⟩:=hcc u hlt;have hv0:=HR.out u hlt;obtain ⟨_,⟨hn1,hn4⟩,_,hxin⟩:=rv_facts rfl hv0;have hmu:=(HS.out u hu).mvd_ Hm.out;have HNx:Hid (nrTo s rs m (u+1)=nrIn (rat rs u).xs (rmL (rat rs u).k (rat rs u).xs (rat rs u).v (nrTo s rs m u) s) (nrTo s rs m u) (rat rs u).xs.length):=Lib.hid rfl
   have hf:=fun j (hj:j<(rat rs u).xs.length)=>nm_rm hs hv0 hmu j hj
   have hF64:=rtF_lt s (rat rs u)
   have hms:∀ i,i<nm->0<=nth (nrTo s rs m u) i/\nth (nrTo s rs m u) i<32:=fun i _=>by obtain ⟨a,b,_⟩:=mvd_nth hmu i;omega
   obtain ⟨F,hF⟩:∃ F,F=rtF s (rat rs u):=⟨_,rfl⟩;obtain ⟨f,hff⟩:∃ f,f=rmL (rat rs u).k (rat rs u).xs (rat rs u).v (nrTo s rs m u) s:=⟨_,rfl⟩;obtain ⟨xs,hxs⟩:∃ xs,xs=(rat rs u).xs:=⟨_,rfl⟩;rw [<- hff] at HNx hf;rw [<- hF] at hf hF64 hrg;rw [<- hxs] at HNx hf hrd hrg hn1 hn4 hxin;obtain ⟨l,hl⟩:∃ l,l=xs.length:=⟨_,rfl⟩;rw [<- hl] at HNx hf hrd hrg hn1 hn4 hxin;obtain ⟨o,hoo⟩:∃ o,o=nrTo s rs m u:=⟨_,rfl⟩;rw [<- hoo] at HNx hf hms ho
   have hin:∀ i,i<l->∃ q:Nat,nth xs i=(q:Int)/\q<nm:=fun i hi=>by
    obtain ⟨y0,y1⟩:=hxin i hi;obtain ⟨q,hq⟩:=Int.eq_ofNat_of_zero_le y0;exact ⟨q,hq,by have:=Hsq.out;omega⟩
   obtain ⟨W2,hW2⟩:∃ W2,(wr.alloc (.cells zeroTab 131)).setRow wr.heap.size (tcells F A' l C')=W2:=⟨_,rfl⟩;have hr2:W2.heap[wr.heap.size]? =some (.cells (tcells F A' l C') 131):=(by rw [<- hW2];exact setRow_heap (w:=wr.alloc (.cells zeroTab 131)) wr.heap.size _ _ _ _ (heap_alloc_new wr _));have hbW:Below wr.heap.size wr W2:=(by rw [<- hW2];exact ((Below.refl _ _).alloc (Nat.le_refl _) _).grown grown_sr0 (by simp) (fun k e=>by have:=Option.some.inj e;omega));have hBt2:Bt<=wr.heap.size:=Nat.le_trans hBt hbr.size;have hgr:=hg.size;have HNa:=Lib.hid (narrow_any F A' C' l Br xs f g c1 nm Wa.heap.size o W2 (hrd.below (hbW.mono (Nat.le_trans hBr hBt2))) (by omega) (ho.below hbW) hn4 hF64 hin hms hf)
   have hg2:w1.grownBy W2 (some g):=hg.trans (grown_of_below6 hbW);subst hW2;have HHr2:=Lib.hid hr2;have Hg2:=Lib.hid hg2;have HX:Hid (∀ w5,Ow w5 Wa.heap.size (some ⟨g,0,none⟩) nm c1 (nrIn xs f o l)->Ow w5 Wa.heap.size (some ⟨g,0,none⟩) nm c1 (nrTo s rs m (u+1))):=Lib.hid (fun w5 h5=>by rw [HNx.out];exact h5);have Hlt:=Lib.hid hlt;have Hz:=Lib.hid (heap_alloc_new wr (.cells zeroTab 131));clear HNx hf hF64 hms hin hF hff hxs hl hoo hrd hv0 hmu hxin hbr hbW hr2 hg2 ho
   go_wp2_with (first
    |(refine wpList_load_mid rfl 131 _ rfl b (u*21) rfl (tcells F A' l C').toList _ hrg Tryz.underlying131 rfl tabi ?_)
    |(refine wpList_store_row rfl 131 _ _ rfl wr.heap.size (tcells F A' l C') rfl rfl 131 zeroTab Hz.out tabi rfl (tcells_one F A' l C') ?_)
    |(refine wpList_load_row rfl 131 _ rfl wr.heap.size rfl 131 (tcells F A' l C') (0,0) _ HHr2.out Tryz.underlying131 rfl tabi ?_)
    |(go_at_call 186;refine HNa.out.mono ?_;rintro e w5 ⟨rfl,ho5,hg5⟩))
   go_roundw
   case rel=>exact ⟨u+1,Hlt.out,by go_num,HX.out _ ho5,Hg2.out.trans hg5⟩
   case measure=>have:=Hlt.out;simp [intOf];omega
  ·obtain rfl:u=nt:=by omega
   go_wp2
   go_ret
   exact retSl_mk (ho.mono (by omega)) (HB1.out.grown hg HB1.out.size (fun k e=>by have:=Option.some.inj e;omega))
set_option maxHeartbeats 1000000 in
theorem round_any (s L Br:Nat) (At:Option Addr) (nt ct Bt:Nat) (gi:List Int) (rs:List RuleM) (A:Option Addr) (c nm B:Nat) (m:List Int) (t:Int) (w:World) (hTb:t=4->TbR w L Bt Br s rs At nt) (hBt:Bt<=w.heap.size) (hBr:Br<=Bt) (h:Rd w B A nm m) (hBm:B<=w.heap.size) (hT:Tz w) (hs:s∈[2,3,4]) (hv:pvB s gi rs=true) (hm:mvd m s=true) (t1:1<=t) (t4:t<=4):
 Calls Tryz.prog 153 #[.agg #[.int .i64 s,.slice At nt ct],.slice A nm c,.int .i64 t] w (RetSl w (nbL s gi rs m t)):=by
 have hb64:=b64_mvd hm;obtain ⟨⟨s2,s4⟩,_,hnm16,_⟩:=mvd_at hm;rw [h.1] at hnm16;obtain ⟨Wa,hWa⟩:∃ Wa,w.alloc (.cells #[.int .i64 s,.slice At nt ct] 78)=Wa:=⟨_,rfl⟩
 have hba:Below w.heap.size w Wa:=by rw [<- hWa];exact (Below.refl _ _).alloc (Nat.le_refl _) _
 have hra:Wa.heap[w.heap.size]? =some (.cells #[.int .i64 s,.slice At nt ct] 78):=by rw [<- hWa];exact heap_alloc_new w _
 have c0:=cell_of_row _ _ 0 _ _ (0,0) hra;have hBa:=Nat.le_trans hBm hba.size;have hRa:=h.below (hba.mono hBm);have hTa:=hT.below hT.lt hba
 have ht:t=1\/t=2\/t=3\/t=4:=by omega
 have Hi:=Lib.hid nar_info
 rcases ht with rfl|rfl|rfl|rfl
 ·have HL:=Lib.hid (show nbL s gi rs m 1=nsL m s nm by unfold nbL;rw [hv,hm,Bool.true_and,if_pos rfl,if_pos rfl,h.1]);have HC:=Lib.hid (implNarrowSingles A c nm B m s Wa hRa hb64 hTa hBa (by omega) (by omega));clear hTb hm hv h hb64
  go_enter Tryz.func153,Tryz.ntmps153
  go_wp2_with (go_at_call 170;refine HC.out.mono ?_;rintro e w1 ⟨A1,c1,rfl,ho1,hb1⟩)
  go_ret
  rw [HL.out];exact ⟨A1,c1,rfl,ho1.mono hba.size,step hba hb1⟩
 ·have HL:=Lib.hid (show nbL s gi rs m 2=nhL m s by unfold nbL;rw [hv,hm,Bool.true_and,if_pos rfl,if_neg (by omega),if_pos rfl]);have HC:=Lib.hid (implNarrowHidden A c nm B m s Wa hRa hb64 hBa (by omega) (by omega));clear hTb hm hv h hb64
  go_enter Tryz.func153,Tryz.ntmps153
  go_wp2_with (go_at_call 171;refine HC.out.mono ?_;rintro e w1 ⟨A1,c1,rfl,ho1,hb1⟩)
  go_ret
  rw [HL.out];exact ⟨A1,c1,rfl,ho1.mono hba.size,step hba hb1⟩
 ·have HL:=Lib.hid (show nbL s gi rs m 3=npL m s by unfold nbL;rw [hv,hm,Bool.true_and,if_pos rfl,if_neg (by omega),if_neg (by omega),if_pos rfl]);have HC:=Lib.hid (implNarrowPairs A c nm B m s Wa hRa hb64 hBa (by omega) (by omega));clear hTb hm hv h hb64
  go_enter Tryz.func153,Tryz.ntmps153
  go_wp2_with (go_at_call 172;refine HC.out.mono ?_;rintro e w1 ⟨A1,c1,rfl,ho1,hb1⟩)
  go_ret
  rw [HL.out];exact ⟨A1,c1,rfl,ho1.mono hba.size,step hba hb1⟩
 ·have hTb:=hTb rfl;have HL:=Lib.hid (show nbL s gi rs m 4=nrTo s rs m nt by unfold nbL nrL;rw [hv,hm,Bool.true_and,if_pos rfl,if_neg (by omega),if_neg (by omega),if_neg (by omega),if_pos rfl,if_pos rfl,hTb.1]);have hall:=(pv_gv hv).2.2;have HC:=Lib.hid (narrowedByRules_any s L Br At nt ct Bt rs A c nm B m Wa (hTb.below (hba.mono hBt) hBr) (Nat.le_trans hBt hba.size) hBr hRa hBa hs hm (fun i hi=>hall i (by rw [hTb.1];exact hi)) (by rw [<- hTb.1];exact (pv_gv hv).2.1));clear hTb hm hv h hb64 hall
  go_enter Tryz.func153,Tryz.ntmps153
  go_wp2_with (first
   |(refine wpList_load_row rfl 78 _ rfl w.heap.size rfl 78 #[.int .i64 s,.slice At nt ct] (0,0) _ hra Tryz.underlying78 rfl (Hi.out _ _) ?_)
   |(go_at_call 173;refine HC.out.mono ?_;rintro e w1 ⟨A1,c1,rfl,ho1,hb1⟩))
  go_ret
  rw [HL.out];exact ⟨A1,c1,rfl,ho1.mono hba.size,step hba hb1⟩
def NextPost (w:World) (nm:Nat):Option (List Int×Nat)->Ending->World->Prop
 |none,e,w'=>e=.returned (.tuple #[.slice none 0 0,.int .i64 0])/\Below w.heap.size w w'
 |some q,e,w'=>(∃ b c,e=.returned (.tuple #[.slice (some ⟨b,0,none⟩) nm c,.int .i64 (q.2:Nat)])/\w.heap.size<=b/\Ow w' w.heap.size (some ⟨b,0,none⟩) nm c q.1)/\Below w.heap.size w w'
set_option maxHeartbeats 2000000 in
theorem next_any (s L Br:Nat) (At:Option Addr) (nt ct Bt:Nat) (gi:List Int) (rs:List RuleM) (A:Option Addr) (c nm B:Nat) (m:List Int) (most:Nat) (w:World) (hTb:4<=most->TbR w L Bt Br s rs At nt) (hBt:Bt<=w.heap.size) (hBr:Br<=Bt) (h:Rd w B A nm m) (hBm:B<=w.heap.size) (hT:Tz w) (hs:s∈[2,3,4]) (hv:pvB s gi rs=true) (hm:mvd m s=true) (h4:most<=4):
 Calls Tryz.prog 119 #[.agg #[.int .i64 s,.slice At nt ct],.slice A nm c,.int .i64 most] w (NextPost w nm (ntF s gi rs m most 1)):=by
 obtain ⟨_,hsq,hnm16,_⟩:=mvd_at hm;rw [h.1] at hsq hnm16
 have hnm0:0<nm:=by
  simp at hs
  rcases hs with rfl|rfl|rfl<;>omega
 obtain ⟨Wa,hWa⟩:∃ Wa,w.alloc (.cells #[.int .i64 s,.slice At nt ct] 78)=Wa:=⟨_,rfl⟩
 have hba:Below w.heap.size w Wa:=by rw [<- hWa];exact (Below.refl _ _).alloc (Nat.le_refl _) _
 have hra:Wa.heap[w.heap.size]? =some (.cells #[.int .i64 s,.slice At nt ct] 78):=by rw [<- hWa];exact heap_alloc_new w _
 have hsa:Wa.heap.size=w.heap.size+1:=by rw [<- hWa];simp
 have Hi:=Lib.hid nar_info;have HRo:=Lib.hid (fun (t:Int) (w':World) (hb:Below w.heap.size w w') (t1:1<=t) (t4:t<=most)=>round_any s L Br At nt ct Bt gi rs A c nm B m t w' (fun e=>(hTb (by omega)).below (hb.mono hBt) hBr) (Nat.le_trans hBt hb.size) hBr (h.below (hb.mono hBm)) (Nat.le_trans hBm hb.size) (hT.below hT.lt hb) hs hv hm t1 (by omega));have HRd:=Lib.hid (fun (w':World) (hb:Below w.heap.size w w')=>h.below (hb.mono hBm));have HSb:=Lib.hid (fun (t:Int) (t1:1<=t) (t4:t<=most)=>(nb_sub (rs:=rs) (gi:=gi) hv hm t1 (show t<=4 by omega)).1.trans h.1)
 have HBa:=Lib.hid hba;have HRa:=Lib.hid hra;clear hTb h hT hv hm hba hra hsq
 go_enter Tryz.func119,Tryz.ntmps119
 go_wp2
 go_loopw [8] (fun i wr=>∃ t:Nat,1<=t/\t<=most+1/\i=.int .i64 t/\(∀ v,1<=v->v<t->nbL s gi rs m v=m)/\Below Wa.heap.size Wa wr) (fun i _=>most+1-(intOf i).toNat)
 case atStart=>exact ⟨1,by omega,by omega,rfl,fun v h1 h2=>absurd h2 (by omega),Below.refl _ _⟩
 case round=>
  obtain ⟨t,t1,t5,rfl,hno,hb⟩:=hrel;have hbw:=HBa.out.trans (hb.mono (by omega))
  by_cases hlt:t<=most
  ·have hltI:(t:Int)<=(most:Int):=by omega
   have hrr:=(hb.block w.heap.size (by omega)).trans HRa.out;have HC:=Lib.hid (HRo.out t wr hbw (by omega) hltI);have Hq:=HSb.out t (by omega) hltI;obtain ⟨q,hq⟩:∃ q,q=nbL s gi rs m t:=⟨_,rfl⟩;rw [<- hq] at HC Hq;have Hlq:=Lib.hid Hq;have Hbw:=Lib.hid hbw;have hb':=hb;clear Hq
   by_cases e:q=m
   ·have hsm:same q m=true:=(by rw [e];exact same_refl m)
    have Hno:=Lib.hid (show ∀ v,1<=v->v<t+1->nbL s gi rs m v=m from fun v h1 h2=>by
     by_cases ev:v=t
     ·subst ev;rw [<- hq];exact e
     ·exact hno v h1 (by omega))
    clear e hq hno hbw
    go_wp2_with (first
     |(refine wpList_load_row rfl 78 _ rfl w.heap.size rfl 78 #[.int .i64 s,.slice At nt ct] (0,0) _ hrr Tryz.underlying78 rfl (Hi.out _ _) ?_)
     |(go_at_call 153;refine HC.out.mono ?_;rintro e w1 ⟨A1,c1,rfl,ho1,hb1⟩;have hb01:=step Hbw.out hb1;rw [Hlq.out] at ho1)
     |(rw [Hlq.out];go_at_call 154;refine (equal_any _ _ _ _ _ _ _ _ _ _ _ ho1.rd (HRd.out _ hb01) (by omega)).mono ?_;rintro e w2 ⟨rfl,hb2⟩;rw [hsm]))
    go_roundw
    case rel=>exact ⟨t+1,by omega,by omega,by go_num,Hno.out,(hb'.trans (hb1.mono hb'.size)).trans (hb2.mono (Nat.le_trans hb'.size hb1.size))⟩
    case measure=>simp [intOf];omega
   ·have hsm:same q m=false:=(by simp [same,e]);have HN:=Lib.hid (show ntF s gi rs m most 1=some (q,t) from ntF_at hno (by omega) (by omega) hq e);clear e hq hno hbw
    go_wp2_with (first
     |(refine wpList_load_row rfl 78 _ rfl w.heap.size rfl 78 #[.int .i64 s,.slice At nt ct] (0,0) _ hrr Tryz.underlying78 rfl (Hi.out _ _) ?_)
     |(go_at_call 153;refine HC.out.mono ?_;rintro e w1 ⟨A1,c1,rfl,ho1,hb1⟩;have hb01:=step Hbw.out hb1;rw [Hlq.out] at ho1)
     |(rw [Hlq.out];go_at_call 154;refine (equal_any _ _ _ _ _ _ _ _ _ _ _ ho1.rd (HRd.out _ hb01) (by omega)).mono ?_;rintro e w2 ⟨rfl,hb2⟩;rw [hsm]))
    go_ret2
    rw [HN.out];obtain ⟨b,rfl,hbl,hbs⟩:=ho1.form (by omega);have hsz:=Hbw.out.size;exact ⟨⟨b,c1,rfl,by omega,(ho1.below hb2).mono hsz⟩,step hb01 hb2⟩
  ·obtain rfl:t=most+1:=by omega
   have HN:=Lib.hid (show ntF s gi rs m most 1=none from ntF_of (fun v h1 h2=>hno v h1 (by omega)));have hltI:¬ ((most+1:Nat):Int)<=(most:Int):=(by omega)
   go_wp2
   go_ret2
   rw [HN.out];exact ⟨rfl,hbw⟩
def nvB (s:Int) (gi:List Int) (rs:List RuleM) (m:List Int) (t:Int):Bool:=inr t 1 4&&pvB s gi rs&&mvd m s
theorem techniqueKnown_any (t:Int) (w:World):Calls Tryz.prog 79 #[.int .i64 t] w fun e w'=>e=.returned (.bool (inr t 1 4))/\w=w':=by
 by_cases h1:(1:Int)<=t
 ·by_cases h4:t<=(4:Int)
  ·have hr:=Lib.hid (show inr t 1 4=true by unfold inr;simp;omega)
   go_enter Tryz.func79,Tryz.ntmps79
   go_wp2
   go_ret
   exact ⟨by rw [hr.out];try simp,rfl⟩
  ·have hr:=Lib.hid (show inr t 1 4=false by unfold inr;simp;omega)
   go_enter Tryz.func79,Tryz.ntmps79
   go_wp2
   go_ret
   exact ⟨by rw [hr.out];try simp,rfl⟩
 ·have hr:=Lib.hid (show inr t 1 4=false by unfold inr;simp;omega)
  go_enter Tryz.func79,Tryz.ntmps79
  go_wp2
  go_ret
  exact ⟨by rw [hr.out];try simp,rfl⟩
set_option maxHeartbeats 1000000 in
theorem narrowingValid_any (s:Int) (Ag:Option Addr) (ng cg Bg:Nat) (gi:List Int) (Ar:Option Addr) (nr cr Br:Nat) (rs:List RuleM) (Am:Option Addr) (nm cm Bm:Nat) (m:List Int) (t:Int) (w:World) (hp:PGc w s Ag ng cg Bg gi Ar nr cr Br rs) (hm:Rd w Bm Am nm m) (hBm:Bm<=w.heap.size) (hm64:B64 m) (hmm:nm<=1099511627776) (hsb: -9223372036854775808<=s/\s<=9223372036854775807):
 Calls Tryz.prog 64 #[.agg #[.int .i64 s,.slice Ag ng cg,.slice Ar nr cr],.slice Am nm cm,.int .i64 t] w fun e w'=>e=.returned (.bool (nvB s gi rs m t))/\Below w.heap.size w w':=by
 have hx0:=pbox_new w s Ag ng cg Ar nr cr 26;have hb0:Below w.heap.size w (w.alloc (.cells #[.int .i64 s,.slice Ag ng cg,.slice Ar nr cr] 26)):=(Below.refl _ _).alloc (Nat.le_refl _) _
 have hs0:w.heap.size<(w.alloc (.cells #[.int .i64 s,.slice Ag ng cg,.slice Ar nr cr] 26)).heap.size:=by simp
 obtain ⟨z0,z1,z2⟩:=id hx0;have HV:=Lib.hid (fun w' (hb:Below w.heap.size w w')=>valid_any s Ag ng cg Bg gi Ar nr cr Br rs w' (hp.below hb));have HM:=Lib.hid (fun w' (hb:Below w.heap.size w w')=>implMasksValid Am cm nm Bm m s w' (hm.below (hb.mono hBm)) hm64 (Nat.le_trans hBm hb.size) hmm hsb);cases hr:inr t 1 4
 ·have HL:=Lib.hid (show nvB s gi rs m t=false by simp [nvB,hr])
  go_enter Tryz.func64,Tryz.ntmps64
  go_wp2_with (go_at_call 79;refine (techniqueKnown_any t _).mono ?_;rintro e wq ⟨rfl,rfl⟩;rw [hr])
  go_ret
  exact ⟨by rw [HL.out];try simp,hb0⟩
 ·cases hv:pvB s gi rs
  ·have HL:=Lib.hid (show nvB s gi rs m t=false by simp [nvB,hv])
   go_enter Tryz.func64,Tryz.ntmps64
   go_wp2_with (first
    |(go_at_call 79;refine (techniqueKnown_any t _).mono ?_;rintro e wq ⟨rfl,rfl⟩;rw [hr])
    |(go_at_call 52;refine (HV.out _ hb0).mono ?_;rintro e w1 ⟨rfl,hb1⟩;rw [hv];have h01:=step hb0 hb1))
   go_ret
   exact ⟨by rw [HL.out];try simp,h01⟩
  ·have HL:=Lib.hid (show nvB s gi rs m t=mvd m s by simp [nvB,hv,hr])
   go_enter Tryz.func64,Tryz.ntmps64
   go_wp2_with (first
    |(go_at_call 79;refine (techniqueKnown_any t _).mono ?_;rintro e wq ⟨rfl,rfl⟩;rw [hr])
    |(go_at_call 52;refine (HV.out _ hb0).mono ?_;rintro e w1 ⟨rfl,hb1⟩;rw [hv];have h01:=step hb0 hb1;obtain ⟨c0,c1,c2⟩:=hx0.below hs0 hb1)
    |(go_at_call 67;refine (HM.out _ h01).mono ?_;rintro e w2 ⟨rfl,hb2⟩;have h02:=step h01 hb2))
   go_ret
   exact ⟨by rw [HL.out];try simp,h02⟩
theorem nv_ok {s:Int} {gi:List Int} {rs:List RuleM} {m:List Int} {t:Int} (h:nvB s gi rs m t=true):(1<=t/\t<=4)/\pvB s gi rs=true/\mvd m s=true/\∃ S:Nat,s=S/\S∈[2,3,4]:=by
 unfold nvB at h;simp only [Bool.and_eq_true] at h;obtain ⟨⟨h1,h2⟩,h3⟩:=h;obtain ⟨⟨s2,s4⟩,_⟩:=mvd_at h3;obtain ⟨S,rfl⟩:=Int.eq_ofNat_of_zero_le (show 0<=s by omega);refine ⟨inr_t h1,h2,h3,S,rfl,?_⟩
 have:S=2\/S=3\/S=4:=by omega
 simpa using this
end Go.Proofs.YtlnmioijgclndaaGreatDoor
namespace Go.Proofs.YtlnmioijgclndaaGreatDoor
theorem nth_set0 (g:List Int) (c i:Nat):nth (g.set c 0) i=nth g i\/nth (g.set c 0) i=0:=by
 by_cases e:c=i
 ·subst e
  by_cases h:c<g.length
  ·right;simp [nth,List.getD_eq_getElem?_getD,h]
  ·left;rw [List.set_eq_of_length_le (by omega)]
 ·left;simp [nth,List.getD_eq_getElem?_getD,e]
theorem fp_parts {s:Int} {gi g:List Int} {rs:List RuleM}:fpB s gi rs g=true↔pvB s gi rs=true/\gv g s=true/\(∀ i,i<g.length->giveOk gi g i=true)/\(∀ i,i<rs.length->rpR s g (rat rs i)=true)/\clash g s=false:=by
 simp only [fpB,fitB,Bool.and_eq_true,List.all_eq_true,List.mem_range,Bool.not_eq_true']
 constructor
 ·rintro ⟨⟨a,b⟩,⟨c,d⟩,e⟩;exact ⟨a,b,c,d,e⟩
 ·rintro ⟨a,b,c,d,e⟩;exact ⟨⟨a,b⟩,⟨c,d⟩,e⟩
theorem ps_is {s:Int} {gi g:List Int} {rs:List RuleM} (hp:pvB s gi rs=true) (hg:gv g s=true):psB s gi rs g=(sqSolved g s&&((List.range rs.length).all fun i=>rhB (rat rs i).k (rat rs i).xs (rat rs i).v g s)&&((List.range g.length).all fun i=>nth gi i==0||nth gi i==nth g i)):=by
 have hl:=gv_len hg
 have hgf:gf g s=(cnz g g.length:Int):=by simp [gf,hg]
 have hli:=gv_len (pv_gv hp).1;unfold psB sqSolved sqFits;rw [hgf,<-hl]
 by_cases hf:cnz g g.length=g.length
 ·have hn:=cnz_all hf
  have e1:((cnz g g.length:Int)==(g.length:Int))=true:=by rw [hf];simp
  rw [e1,Bool.and_true,Bool.and_true,Bool.eq_iff_iff,fp_parts];simp only [Bool.and_eq_true,List.all_eq_true,List.mem_range,Bool.not_eq_true',Bool.or_eq_true,beq_iff_eq,hp,hg,true_and]
  have q1:∀ i,i<rs.length->(rhB (rat rs i).k (rat rs i).xs (rat rs i).v g s=true↔rpR s g (rat rs i)=true):=fun i hi=>by
   rw [rh_full ((pv_gv hp).2.2 i hi) hg hf];exact Iff.rfl
  have q2:∀ i,i<g.length->(giveOk gi g i=true↔(nth gi i=0\/nth gi i=nth g i)):=fun i hi=>by
   have h1:=hn i hi;have h2:=(gv_nth hg hi).1;have h3:=(gv_nth (pv_gv hp).1 (show i<gi.length by omega)).1;simp only [giveOk,Bool.not_eq_true',Bool.and_eq_false_iff,decide_eq_false_iff_not,bne_eq_false_iff_eq];omega
  constructor
  ·rintro ⟨a,b,c⟩;exact ⟨⟨c,fun i hi=>(q1 i hi).2 (b i hi)⟩,fun i hi=>(q2 i hi).1 (a i hi)⟩
  ·rintro ⟨⟨c,b⟩,a⟩;exact ⟨fun i hi=>(q2 i hi).2 (a i hi),fun i hi=>(q1 i hi).1 (b i hi),c⟩
 ·have e1:((cnz g g.length:Int)==(g.length:Int))=false:=by simp only [beq_eq_false_iff_ne];omega
  rw [e1]
  simp
end Go.Proofs.YtlnmioijgclndaaGreatDoor
