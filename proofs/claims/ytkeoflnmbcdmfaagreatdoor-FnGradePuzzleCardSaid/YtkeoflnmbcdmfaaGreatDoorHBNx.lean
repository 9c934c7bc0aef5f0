import Derived.Test.YtkeoflnmbcdmfaaGreatDoorHBOb
import Derived.Lib.SliceRun
set_option maxRecDepth 8000
namespace Go.Proofs.YtkeoflnmbcdmfaaGreatDoor
open Go.ChangeShapes Go.WideShapes Go.ChangeAt Go.RowKit
theorem mvd_top {m:List Int} {s:Nat} (h:mvd m s=true) (i:Nat):(nth m i).toNat<2^(s+1):=by
 by_cases hi:i<m.length
 ·simp only [mvd,Bool.and_eq_true,List.all_eq_true] at h;have hm:=h.2 _ (List.getElem_mem hi);simp only [mkOk,Bool.and_eq_true] at hm
  have e:nth m i=m[i]:=by simp [nth,List.getD_eq_getElem?_getD,hi]
  rw [e];obtain ⟨m0,m1⟩:=inr_t hm.1
  have hp:(2:Int)^((s:Int).toNat+1)=((2^(s+1):Nat):Int):=by rw [Int.toNat_natCast];simp
  rw [hp] at m1;omega
 ·have:nth m i=0:=by simp [nth,List.getD_eq_getElem?_getD,List.getElem?_eq_none (by omega:m.length<=i)]
  rw [this];exact Nat.two_pow_pos _
theorem opN_bit {s n i t:Nat} (hs:s∈[2,3,4]) (hi:i<n) (h1:1<=t) (h4:t<=s):(nth (opN n s) i).toNat.testBit t=true:=by
 unfold opN;rw [emL_at (n:=n) (by simp [zeros]) hi,Int.toNat_natCast];unfold emN;rw [if_pos (by rw [zeros_nth])]
 simp at hs
 rcases hs with rfl|rfl|rfl
 ·have:t=1\/t=2:=by omega
  rcases this with rfl|rfl<;>decide
 ·have:t=1\/t=2\/t=3:=by omega
  rcases this with rfl|rfl|rfl<;>decide
 ·have:t=1\/t=2\/t=3\/t=4:=by omega
  rcases this with rfl|rfl|rfl|rfl<;>decide
def rtF (s:Nat) (r:RuleM):Nat->Nat:=tF (rW r.k r.v r.xs.length s) r.xs.length
theorem rtF_lt (s:Nat) (r:RuleM) (i:Nat):rtF s r i<2^64:=tF_lt _ _ _
theorem nm_rm {s:Nat} {r:RuleM} {o:List Int} (hs:s∈[2,3,4]) (hv:rvR s r=true) (hm:mvd o s=true) (j:Nat) (hj:j<r.xs.length):
 nth (rmL r.k r.xs r.v o s) j=((nmUF (rtF s r) (loJF (rtF s r) (fun j=>(nth o (nth r.xs j).toNat).toNat) r.xs.length) j 5:Nat):Int):=by
 have hL:=rW_len (s:=s) rfl hv;unfold rtF;rw [nmUF_is (by omega) hj 5 (Nat.le_refl _),loJF_is (by omega) _ (Nat.le_refl _),rm_nth hv hm j,nm_is (P:=pks o r.xs r.xs.length) (by omega) (fun i hi=>by rw [pks_nth hi]) (fun i hi t h1 _ hb=>?_) hj];rw [pks_nth hi] at hb;have hlt:=mvd_top hm (nth r.xs i).toNat;refine opN_bit hs hi h1 ?_
 rcases Nat.lt_or_ge t (s+1) with h|h
 ·omega
 ·rw [Nat.testBit_lt_two_pow (Nat.lt_of_lt_of_le hlt (Nat.pow_le_pow_right (n:=2) (by omega) h))] at hb;cases hb
def tabV (s:Nat) (RA:Nat->Option Addr) (RC:Nat->Nat) (rs:List RuleM):Nat->List Value
 |0=>[]
 |u+1=>tabV s RA RC rs u++(tcells (rtF s (rat rs u)) (RA u) (rat rs u).xs.length (RC u)).toList
theorem tabV_len (s:Nat) (RA:Nat->Option Addr) (RC:Nat->Nat) (rs:List RuleM) (u:Nat):(tabV s RA RC rs u).length=u*21:=by
 induction u with
 |zero=>rfl
 |succ u ih=>simp only [tabV,List.length_append,ih];rw [show (tcells (rtF s (rat rs u)) (RA u) (rat rs u).xs.length (RC u)).toList.length=21 from rfl];omega
theorem tabV_at (s:Nat) (RA:Nat->Option Addr) (RC:Nat->Nat) (rs:List RuleM) {u j i:Nat} (hj:j<u) (hi:i<21):(tabV s RA RC rs u)[j*21+i]? =(tcells (rtF s (rat rs j)) (RA j) (rat rs j).xs.length (RC j)).toList[i]? :=by
 induction u with
 |zero=>omega
 |succ u ih=>
  simp only [tabV]
  by_cases e:j=u
  ·subst e;rw [List.getElem?_append_right (by rw [tabV_len];omega),tabV_len]
   congr 1;omega
  ·rw [List.getElem?_append_left (by rw [tabV_len];omega)];exact ih (by omega)
def TbR (w:World) (L B Br s:Nat) (rs:List RuleM) (A:Option Addr) (n:Nat):Prop:=
 rs.length=n/\(0<n->∃ b,A=some ⟨b,0,none⟩/\L<=b/\b<B/\∀ j,j<n->∃ A' c',w.rangeAt b (j*21) (tcells (rtF s (rat rs j)) A' (rat rs j).xs.length c').toList/\Rd w Br A' (rat rs j).xs.length (rat rs j).xs)
theorem rangeAt_below {w w':World} {B b o:Nat} {cs:List Value} (h:w.rangeAt b o cs) (hb:Below B w w') (hB:b<B):w'.rangeAt b o cs:=fun j v hj=>(hb.cell (p:=⟨b,o+j,none⟩) hB).trans (h j v hj)
theorem TbR.below {w w':World} {L B Br s:Nat} {rs:List RuleM} {A:Option Addr} {n:Nat} (h:TbR w L B Br s rs A n) (hb:Below B w w') (hBr:Br<=B):TbR w' L B Br s rs A n:=
 ⟨h.1,fun hn=>by
   obtain ⟨b,e,hL,hlt,hc⟩:=h.2 hn;refine ⟨b,e,hL,hlt,fun j hj=>?_⟩;obtain ⟨A',c',h0,h1⟩:=hc j hj
   exact ⟨A',c',rangeAt_below h0 hb hlt,h1.below (hb.mono hBr)⟩⟩
theorem TbR.keep {w w':World} {L B Br s:Nat} {rs:List RuleM} {A:Option Addr} {n:Nat} (h:TbR w L B Br s rs A n) (hk:∀ k,L<=k->k<B->w'.heap[k]? =w.heap[k]?) (hb:Below Br w w'):TbR w' L B Br s rs A n:=
 ⟨h.1,fun hn=>by
   obtain ⟨b,e,hL,hlt,hc⟩:=h.2 hn;refine ⟨b,e,hL,hlt,fun j hj=>?_⟩;obtain ⟨A',c',h0,h1⟩:=hc j hj
   exact ⟨A',c',fun i v hi=>(World.cell?_of_block (a:=⟨b,j*21+i,none⟩) (hk b hL hlt)).trans (h0 i v hi),h1.below hb⟩⟩
theorem tbr_own {w:World} {L lo Br s n c:Nat} {A:Option Addr} {rs:List RuleM} {RA:Nat->Option Addr} {RC:Nat->Nat} (h:w.ownsRow lo 142 21 (.slice A n c) n (tabV s RA RC rs n)) (hl:rs.length=n)
 (hr:∀ j,j<n->Rd w Br (RA j) (rat rs j).xs.length (rat rs j).xs) (hL:L<=lo):TbR w L w.heap.size Br s rs A n:=by
 refine ⟨hl,fun hn=>?_⟩;obtain ⟨g,cap,hv,h1,h2⟩:=World.ownsRow.form h hn
 injection hv with hA
 subst hA;refine ⟨g,rfl,by omega,h2,fun j hj=>⟨RA j,RC j,fun i v hi=>?_,hr j hj⟩⟩
 have hi21:i<21:=by
  have:=(List.getElem?_eq_some_iff.1 hi).1;exact this
 have:=World.ownsRow.cellAt h (j*21+i) (by omega);rw [this,tabV_at s RA RC rs hj hi21];exact hi
section
variable {F : Fence} {m : Nat} {P : Program} {ops : Array Oper} {rest : List Oper} {o : Oper} {a : Act} {w : World} {Q : Exit → Act → World → Prop}
theorem wpListIn_store_row (hgd:o.guard=none) (ty:TypeId) (x y:Operand) (ho:o.op=.store ty x y)
 (g:Nat) (cells:Array Value) (hx:a.eval x=.pointer (some ⟨g,0,none⟩)) (hy:a.eval y=.agg cells)
 (t:TypeId) (old:Array Value) (hg:w.heap[g]? =some (.cells old t (0,0))) (hi:(P.info? ty).map (·.size)=some cells.size)
 (hold:old.size=cells.size) (h1:cells.all (·.oneCell')=true)
 (h:wpListIn F m P ops Q rest (a.put o.dst undef) (w.setRow g cells)):wpListIn F m P ops Q (o::rest) a w:=by
 refine wpListIn_plain hgd fun K hK'=>?_
 unfold Oper.wpIn;refine ⟨?_,?_⟩
 ·simp [Oper.about,ho]
 ·rw [Oper.semAt_plain F _ _ (by rw [ho];intro c hc';cases hc')];unfold execOp;simp only [ho,hx,hy,Instr.storeAt,Instr.sureAddr,Sem.run_bind,Sem.run_pure,Result.andThen_ok,run_storeVar_row w g t ty old cells hg hi hold h1];exact hK' _ _ h
theorem wpListIn_load_row (hgd:o.guard=none) (ty:TypeId) (x:Operand) (ho:o.op=.load ty x)
 (g:Nat) (hx:a.eval x=.pointer (some ⟨g,0,none⟩)) (t:TypeId) (cs:Array Value) (fr:Nat×Nat) (d:TypeDesc) (hg:w.heap[g]? =some (.cells cs t fr))
 (hu:P.underlying ty=some d) (hd:(match d with|.struct _|.array _ _=>true|_=>false)=true) (hi:(P.info? ty).map (·.size)=some cs.size)
 (h:wpListIn F m P ops Q rest (a.put o.dst (.agg cs)) w):wpListIn F m P ops Q (o::rest) a w:=by
 refine wpListIn_plain hgd fun K hK'=>?_
 unfold Oper.wpIn;refine ⟨?_,?_⟩
 ·simp [Oper.about,ho]
 ·rw [Oper.semAt_plain F _ _ (by rw [ho];intro c hc';cases hc')];unfold execOp;simp only [ho,hx,Instr.loadAt,Instr.sureAddr,Sem.run_bind,Sem.run_pure,Result.andThen_ok,run_loadVar_row w g t ty cs fr d hg hu hd hi];exact hK' _ _ h
end
section
variable {F : Fence} {n : Nat} {P : Program} {md : Region.Mode} {ops : Array Oper} {Q : Exit → Act → World → Prop} {Inv : Array Bool → Act → World → Prop}
theorem wpAnyIn_inv (hback:∀ (i:Nat) (o:Oper),ops[i]? =some o->∀ e∈o.after,e.on<i) (hsz:∀ l a w,Inv l a w->l.size=ops.size)
 (hstep:∀ l a w (i:Nat) (o:Oper),Inv l a w->ops[i]? =some o->l.getD i true=false->(∀ e∈o.after,Region.binds md e=true->l.getD e.on false=true)->wpOpIn F n P ops Q i (Inv (l.setIfInBounds i true)) a w)
 (hdone:∀ l a w,Inv l a w->(∀ i,i<ops.size->l.getD i false=true)->Q .normal a w):
 ∀ fuel l a w,unl l<=fuel->Inv l a w->wpAnyIn F n P md ops Q fuel l a w:=by
 have fin:∀ l a w,Inv l a w->Region.ready md ops l=[]->Q .normal a w:=by
  intro l a w hI hr;refine hdone l a w hI ?_;intro i
  induction i using Nat.strongRecOn with
  |ind i ih=>
   intro hi
   cases hb:l.getD i false with
   |true=>rfl
   |false=>
    exfalso
    have hil:i<l.size:=(by rw [hsz l a w hI];exact hi);have ho:ops[i]? =some ops[i]:=Array.getElem?_eq_getElem hi;have:i∈Region.ready md ops l:=mem_ready.2 ⟨by simpa [hil] using hb,ops[i],ho,fun e he _=>ih e.on (hback i _ ho e he) (Nat.lt_trans (hback i _ ho e he) hi)⟩;rw [hr] at this;cases this
 intro fuel
 induction fuel with
 |zero=>
  intro l a w hu hI
  have hr:Region.ready md ops l=[]:=by
   cases e:Region.ready md ops l with
   |nil=>rfl
   |cons j r=>
    have hj:j∈Region.ready md ops l:=(by rw [e];exact List.mem_cons_self ..);have h1:=(mem_ready.1 hj).1;rw [unl_zero (by omega) j] at h1;cases h1
  exact ⟨hr,fin l a w hI hr⟩
 |succ fuel ih=>
  intro l a w hu hI;refine ⟨fin l a w hI,fun i hi=>?_⟩;obtain ⟨h1,o,ho,hall⟩:=mem_ready.1 hi;refine wpOpIn_mono (fun a' w' h=>ih _ a' w' ?_ h) (hstep l a w i o hI ho h1 hall);have:=unl_set h1;omega
end
def plainOp (o:Oper):Bool:=match o.op with
 |.call _=>false
 |.defer _=>false
 |_=>true
theorem about_none {P:Program} {w:World} {ev:Operand->Value} {o:Oper} (h:plainOp o=true):o.about P w ev=none:=by
 unfold plainOp at h;unfold Oper.about
 cases hop:o.op<;>simp_all
theorem plain_defer {o:Oper} (h:plainOp o=true):∀ c,o.op≠.defer c:=fun c e=>by
 unfold plainOp at h;rw [e] at h;cases h
def chkOpsT (ops:Array Oper) (ds:List Nat):Bool:=
 ops.size==ds.length+1&&((List.range ops.size).all fun i=>match ops[i]? with
  |some o=>o.after.all fun e=>decide (e.on<i)
  |none=>false)&&((List.range ds.length).all fun i=>match ops[i]? with
  |some o=>decide (o.dst=some (ds.getD i 0))&&o.guard.isNone
  |none=>false)&&((match ops[ds.length]? with
  |some o=>o.dst.isNone&&o.guard.isNone
  |none=>false)&&(List.range ds.length).all fun j=>(List.range (ds.length+1)).any fun i=>decide (j<i)&&match ops[i]? with
   |some o=>o.after.any fun e=>e.on==j&&Region.binds .any e
   |none=>false)&&decide ds.Nodup
theorem wpIn_region_rd {F:Fence} {n:Nat} {P:Program} {ops:Array Oper} {Q:Exit->Act->World->Prop} {id:Nat} {a0:Act} {W:World} (ds:List Nat) (G:Nat->Value->Prop)
 (hm:P.follows .mixedOrders=true) (hc:chkOpsT ops ds=true) (hpl:ops.all plainOp=true) (hlt:∀ t∈ds,t<a0.tmps.size)
 (hstep:∀ (i:Nat) (o:Oper) (a:Act),i<ds.length->ops[i]? =some o->(∀ t,t∉ds->a.eval (.tmp t)=a0.eval (.tmp t))->(∀ e∈o.after,Region.binds .any e=true->G e.on (a.eval (.tmp (ds.getD e.on 0))))->∃ v,(execOp a.eval o).run P W.drew=.ok (.value v) W.drew/\G i v)
 (hlast:∀ (o:Oper) (a:Act),ops[ds.length]? =some o->a.defers=a0.defers->a.tmps=ds.foldl (fun tm t=>tm.setIfInBounds t (a.tmps.getD t undef)) a0.tmps->(∀ t,t∉ds->a.eval (.tmp t)=a0.eval (.tmp t))->(∀ j,j<ds.length->G j (a.eval (.tmp (ds.getD j 0))))->∃ w',(execOp a.eval o).run P W.drew=.ok .skip w'/\Q .normal a w'):
 (Code.region id ops true).wpIn F n P Q a0 W:=by
 simp only [chkOpsT,Bool.and_eq_true,beq_iff_eq,List.all_eq_true,List.mem_range,decide_eq_true_eq] at hc;obtain ⟨⟨⟨⟨c1,c2⟩,c3⟩,c4,c6⟩,c5⟩:=hc;obtain ⟨m,hmd⟩:∃ m,m=ds.length:=⟨_,rfl⟩
 obtain ⟨d,hd⟩:∃ d:Nat->Nat,d=fun j=>ds.getD j 0:=⟨_,rfl⟩
 have hout:∀ t,t∉ds->∀ j,j<m->d j≠t:=fun t ht j hj e=>ht (by
  rw [<- e,hd]
  show ds.getD j 0∈ds
  rw [List.getD_eq_getElem?_getD,List.getElem?_eq_getElem (by omega)];exact List.getElem_mem _)
 have hmem:∀ j,j<m->d j∈ds:=fun j hj=>by
  rw [hd]
  show ds.getD j 0∈ds
  rw [List.getD_eq_getElem?_getD,List.getElem?_eq_getElem (by omega)];exact List.getElem_mem _
 have hinj:∀ i j,i<m->j<m->d i=d j->i=j:=fun i j hi hj e=>by
  rw [hd] at e;have e':ds.getD i 0=ds.getD j 0:=e;simp only [List.getD_eq_getElem?_getD,List.getElem?_eq_getElem (show i<ds.length by omega),List.getElem?_eq_getElem (show j<ds.length by omega),Option.getD_some] at e';exact (List.getElem_inj c5).1 e'
 have hback:∀ (i:Nat) (o:Oper),ops[i]? =some o->∀ e∈o.after,e.on<i:=by
  intro i o ho e he;have hi:i<ops.size:=(Array.getElem?_eq_some_iff.1 ho).1;have:=c2 i hi;rw [ho] at this;simp only [Array.all_eq_true_iff_forall_mem,decide_eq_true_eq] at this;exact this e he
 have hdd:∀ i o,i<m->ops[i]? =some o->o.dst=some (d i)/\o.guard=none:=by
  intro i o hi ho;have:=c3 i (by omega);rw [ho] at this;simp only [Bool.and_eq_true,decide_eq_true_eq,Option.isNone_iff_eq_none] at this;rw [hd];exact this
 have hl:∀ o,ops[m]? =some o->o.dst=none/\o.guard=none:=by
  intro o ho;rw [<- hmd,ho] at c4;simp only [Bool.and_eq_true,Option.isNone_iff_eq_none] at c4;exact c4
 have hsuc:∀ j,j<m->∃ i o e,j<i/\i<=m/\ops[i]? =some o/\e∈o.after/\e.on=j/\Region.binds .any e=true:=fun j hj=>by
  have h1:=c6 j (by omega);rw [List.any_eq_true] at h1;obtain ⟨i,hi,h2⟩:=h1;rw [List.mem_range] at hi;rw [Bool.and_eq_true,decide_eq_true_eq] at h2;obtain ⟨h3,h4⟩:=h2
  cases ho:ops[i]? with
  |none=>rw [ho] at h4;cases h4
  |some o=>
   rw [ho] at h4;obtain ⟨e,he,h⟩:=Array.any_eq_true'.1 h4;rw [Bool.and_eq_true,beq_iff_eq] at h;exact ⟨i,o,e,h3,by omega,ho,he,h.1,h.2⟩
 have hplain:∀ i o,ops[i]? =some o->plainOp o=true:=fun i o ho=>by
  rw [Array.all_eq_true_iff_forall_mem] at hpl;exact hpl o (Array.mem_of_getElem? ho)
 rw [<- hmd] at c1 hstep hlast
 have hstep':∀ (i:Nat) (o:Oper) (a:Act),i<m->ops[i]? =some o->Off d m a a0->(∀ e∈o.after,Region.binds .any e=true->G e.on (a.eval (.tmp (d e.on))))->∃ v,(execOp a.eval o).run P W.drew=.ok (.value v) W.drew/\G i v:=fun i o a hi ho hoff hpre=>
  hstep i o a hi ho (fun t ht=>hoff.eval (hout t ht)) (by rw [hd] at hpre;exact hpre)
 have hlast':∀ (o:Oper) (a:Act),ops[m]? =some o->Off d m a a0->(∀ j,j<m->G j (a.eval (.tmp (d j))))->∃ w',(execOp a.eval o).run P W.drew=.ok .skip w'/\Q .normal a w':=fun o a ho hoff hpre=>
  hlast o a ho hoff.2.1 (frame_of ds hoff.1 (fun t ht=>hoff.2.2 t (hout t ht))) (fun t ht=>hoff.eval (hout t ht)) (by rw [hd] at hpre;exact hpre)
 have hltd:∀ i,i<m->d i<a0.tmps.size:=fun i hi=>hlt _ (hmem i hi)
 clear hstep hlast hd hout hmem c2 c3 c4 c5 c6 hpl hlt
 refine wpIn_region_any hm (wpAnyIn_inv (Inv:=fun l a w=>(l.size=ops.size/\∀ i o,ops[i]? =some o->l.getD i false=true->∀ e∈o.after,Region.binds .any e=true->l.getD e.on false=true)/\((l.getD m false=false/\w=W.drew/\Off d m a a0/\∀ j,j<m->l.getD j false=true->G j (a.eval (.tmp (d j))))\/((∀ j,j<ops.size->l.getD j false=true)/\Q .normal a w))) hback (fun l a w h=>h.1.1) ?step ?done _ _ _ _ (by
  unfold unl
  exact Nat.le_trans (List.countP_le_length) (by simp)) ?h0)
 case done=>
  rintro l a w ⟨_,h⟩ hall
  rcases h with ⟨h1,_⟩|⟨_,h⟩
  ·rw [hall m (by omega)] at h1;cases h1
  ·exact h
 case h0=>
  refine ⟨⟨by simp,fun i o ho hli=>?_⟩,.inl ⟨by rw [Array.getD_eq_getD_getElem?,Array.getElem?_replicate];split<;>rfl,rfl,⟨rfl,rfl,fun _ _=>rfl⟩,fun j hj hlj=>?_⟩⟩
  ·have hi:i<ops.size:=(Array.getElem?_eq_some_iff.1 ho).1
   simp at hli
   simp [hi] at hli
  ·simp at hlj
   have:j<ops.size:=(by omega)
   simp [this] at hlj
 case step=>
  rintro l a w i o ⟨⟨hs,hcl⟩,h⟩ ho hli hall;have hi:i<ops.size:=(Array.getElem?_eq_some_iff.1 ho).1
  have hil:i<l.size:=by omega
  have hp:=hplain i o ho
  rcases h with ⟨h1,rfl,hoff,hg⟩|⟨h,_⟩
  ·refine wpOpIn_step ho (fun K hK=>?_)
   have hset:∀ j,(l.setIfInBounds i true).getD j false=if j=i then true else l.getD j false:=fun j=>by
    by_cases e:j=i
    ·subst e;simp [hil]
    ·rw [if_neg e];simp [Array.getElem?_setIfInBounds_ne (fun e'=>e (Eq.symm e'))]
   have hsz:(l.setIfInBounds i true).size=ops.size/\∀ i' o',ops[i']? =some o'->(l.setIfInBounds i true).getD i' false=true->∀ e∈o'.after,Region.binds .any e=true->(l.setIfInBounds i true).getD e.on false=true:=by
    refine ⟨by simpa using hs,fun i' o' ho' hl' e he hbd=>?_⟩
    have hold:l.getD e.on false=true:=by
     by_cases e1:i'=i
     ·subst e1;rw [ho] at ho'
      injection ho' with ho'
      subst ho';exact hall e he hbd
     ·rw [hset,if_neg e1] at hl';exact hcl i' o' ho' hl' e he hbd
    rw [hset]
    split
    ·rfl
    ·exact hold
   by_cases him:i=m
   ·subst him;obtain ⟨q1,q2⟩:=hl o ho
    have hallj:∀ r j,i-j=r->j<i->l.getD j false=true:=by
     intro r
     induction r using Nat.strongRecOn with
     |ind r ih=>
      intro j hr hj;obtain ⟨i',o',e,h3,h4,h5,h6,h7,h8⟩:=hsuc j hj
      by_cases e1:i'=i
      ·subst e1;rw [ho] at h5
       injection h5 with h5
       subst h5;rw [<- h7];exact hall e h6 h8
      ·have:=ih (i-i') (by omega) i' rfl (by omega);rw [<- h7];exact hcl i' o' h5 this e h6 h8
    have hallj:∀ j,j<i->l.getD j false=true:=fun j hj=>hallj _ j rfl hj
    obtain ⟨w',hrun,hq⟩:=hlast' o a ho hoff (fun j hj=>hg j hj (hallj j hj));rw [if_pos (by simp [Region.wanted,q2])];unfold Oper.wpIn;refine ⟨fun f hf=>(by rw [about_none hp] at hf;cases hf),?_⟩;rw [Oper.semAt_plain F _ _ (plain_defer hp),hrun];have hput:a.put o.dst undef=a:=(by rw [q1];rfl);refine hK _ _ ⟨hsz,.inr ⟨fun j hj=>?_,?_⟩⟩
    ·by_cases e:j=i
     ·subst e;simp [hil]
     ·have:=hallj j (by omega);rw [hset,if_neg e];exact this
    ·first|exact hq|(rw [hput];exact hq)
   ·have him':i<m:=(by omega);obtain ⟨q1,q2⟩:=hdd i o him' ho
    have hpre:∀ e∈o.after,Region.binds .any e=true->G e.on (a.eval (.tmp (d e.on))):=fun e he hbd=>hg e.on (Nat.lt_trans (hback i o ho e he) him') (hall e he hbd)
    obtain ⟨v,hrun,hgi⟩:=hstep' i o a him' ho hoff hpre;rw [if_pos (by simp [Region.wanted,q2])];unfold Oper.wpIn;refine ⟨fun f hf=>(by rw [about_none hp] at hf;cases hf),?_⟩;rw [Oper.semAt_plain F _ _ (plain_defer hp),hrun];have hdlt:d i<a.tmps.size:=(by rw [hoff.1];exact hltd i him');refine hK _ _ ⟨hsz,.inl ⟨by rw [hset,if_neg (fun e=>him e.symm)];exact h1,rfl,?_,fun j hj hlj=>?_⟩⟩
    ·rw [q1];refine ⟨by rw [size_put];exact hoff.1,hoff.2.1,fun t ht=>?_⟩;rw [<- hoff.2.2 t ht]
     simp [Act.put,Array.getElem?_setIfInBounds_ne (ht i him')]
    ·rw [q1]
     by_cases e:j=i
     ·subst e;rw [eval_put_same hdlt];exact hgi
     ·rw [eval_put_ne (fun e'=>e (hinj _ _ hj him' e'.symm))];rw [hset,if_neg e] at hlj;exact hg j hj hlj
  ·have:=h i hi
   simp [hil] at hli this
   rw [this] at hli;cases hli
end Go.Proofs.YtkeoflnmbcdmfaaGreatDoor
namespace Go.Proofs.YtkeoflnmbcdmfaaGreatDoor
open Go.ChangeShapes Go.WideShapes Go.ChangeAt Go.RowKit Go.Shelf
attribute [local go_sem] Oper.semAt_some
theorem waysToHold_at (A:Option Addr) (c n:Nat) (k v:Int) (Am:Option Addr) (n2 cm:Nat) (w:World) (hk:k=1\/k=2\/k=3\/k=4\/k=5):
 Calls Tryz.prog 168 #[.agg #[.int .i64 k,.slice A n c,.int .i64 v],.slice Am n2 cm] w fun e w'=>
  ∃ MB RB,e=.returned (.func (.func 183) #[] #[.pointer (some ⟨MB,0,none⟩),.pointer (some ⟨RB,0,none⟩)])/\w.heap.size<=MB/\w.heap.size<=RB/\w'.cell? ⟨MB,0,none⟩=some (.slice Am n2 cm)/\w'.cell? ⟨RB,0,none⟩=some (ofk k (rval k A n c v))/\Below w.heap.size w w':=by
 have hx0:=rbox_new w k A n c v 88;have hb0:Below w.heap.size w (w.alloc (.cells #[.int .i64 k,.slice A n c,.int .i64 v] 88)):=(Below.refl _ _).alloc (Nat.le_refl _) _
 have hs0:(w.alloc (.cells #[.int .i64 k,.slice A n c,.int .i64 v] 88)).heap.size=w.heap.size+1:=by simp
 obtain ⟨W1,hW1⟩:∃ W1,(w.alloc (.cells #[.int .i64 k,.slice A n c,.int .i64 v] 88)).alloc (.cells #[.slice Am n2 cm] 23)=W1:=⟨_,rfl⟩
 have hb1:Below w.heap.size w W1:=by rw [<- hW1];exact hb0.alloc hb0.size _
 have hs1:W1.heap.size=w.heap.size+1+1:=by rw [<- hW1];simp
 have hx1:RBox W1 w.heap.size k A n c v:=by
  rw [<- hW1];exact hx0.below (by simp) ((Below.refl _ _).alloc (Nat.le_refl _) _)
 have hm1:W1.cell? ⟨w.heap.size+1,0,none⟩=some (.slice Am n2 cm):=by
  rw [<- hW1,<-hs0];exact cell_of_row _ _ 0 _ _ (0,0) (heap_alloc_new _ _)
 obtain ⟨a0,a1,a2⟩:=id hx1;obtain ⟨x,hx⟩:∃ x,rval k A n c v=x:=⟨_,rfl⟩
 obtain ⟨T,hT⟩:∃ T,ofk k (rval k A n c v)=.iface T x:=by
  rw [hx]
  rcases hk with rfl|rfl|rfl|rfl|rfl<;>exact ⟨_,rfl⟩
 have HK:=ofKind_any A c n k v W1;rw [hT] at HK ⊢;have HK:=Lib.hid HK;clear hx hT;have Hs:=Lib.hid hs1;clear hs1 hs0 hb0
 go_enter Tryz.func168,Tryz.ntmps168
 go_wp2_with (go_at_call 175;refine HK.out.mono ?_;rintro e w3 ⟨rfl,hb3⟩;have hm3:=(hb3.cell (p:=⟨w.heap.size+1,0,none⟩) (show w.heap.size+1<_ by rw [Hs.out];omega)).trans hm1)
 go_ret
 have hb4:Below w3.heap.size w3 (w3.alloc (.cells #[.iface T x] 174)):=(Below.refl _ _).alloc (Nat.le_refl _) _;exact ⟨w.heap.size+1,w3.heap.size,rfl,Nat.le_succ _,Nat.le_trans (by rw [Hs.out];omega) hb3.size,(hb4.cell (p:=⟨w.heap.size+1,0,none⟩) (cell_lt hm3)).trans hm3,cell_of_row _ _ 0 _ _ (0,0) (heap_alloc_new _ _),step (step hb1 hb3) hb4⟩
def TbG (TB t z f y:Nat):Nat->Value->Prop
 |0,v=>v=.int .i64 t
 |1,v=>v=.int .i64 z
 |2,v=>v=.pointer (some ⟨TB,1,none⟩)
 |3,v=>v=.pointer (some ⟨TB,1+t*5,none⟩)
 |4,v=>v=.pointer (some ⟨TB,1+t*5+z,none⟩)
 |5,v=>v=.int .u64 f
 |6,v=>v=.int .u64 y
 |7,v=>v=.int .u64 (f|||y:Nat)
 |8,v=>v=.pointer (some ⟨TB,1,none⟩)
 |9,v=>v=.pointer (some ⟨TB,1+t*5,none⟩)
 |10,v=>v=.pointer (some ⟨TB,1+t*5+z,none⟩)
 |_,_=>False
set_option maxHeartbeats 2000000 in
theorem table_any (A:Option Addr) (c n:Nat) (k v:Int) (s:Nat) (w:World) (hs:s∈[2,3,4]) (n1:1<=n) (n4:n<=4)
 (hk:k=1\/k=2\/k=3\/k=4\/k=5) (h2:k=1\/k=2\/k=3\/2<=n):
 Calls Tryz.prog 130 #[.agg #[.int .i64 k,.slice A n c,.int .i64 v],.int .i64 s] w fun e w'=>e=.returned (.agg (tcells (tF (rW k v n s) n) A n c))/\Below w.heap.size w w':=by
 obtain ⟨W1,hW1⟩:∃ W1,w.alloc (.cells #[.int .i64 k,.slice A n c,.int .i64 v] 88)=W1:=⟨_,rfl⟩;have hx1:=rbox_new w k A n c v 88;rw [hW1] at hx1
 have hb1:Below w.heap.size w W1:=by rw [<- hW1];exact (Below.refl _ _).alloc (Nat.le_refl _) _
 have hs1:W1.heap.size=w.heap.size+1:=by rw [<- hW1];simp
 obtain ⟨W2,hW2⟩:∃ W2,W1.alloc (.cells #[.slice none 0 0,.int .u64 0,.int .u64 0,.int .u64 0,.int .u64 0,.int .u64 0,.int .u64 0,.int .u64 0,.int .u64 0,.int .u64 0,.int .u64 0,.int .u64 0,.int .u64 0,.int .u64 0,.int .u64 0,.int .u64 0,.int .u64 0,.int .u64 0,.int .u64 0,.int .u64 0,.int .u64 0] 142)=W2:=⟨_,rfl⟩
 have hb2:Below W1.heap.size W1 W2:=by rw [<- hW2];exact (Below.refl _ _).alloc (Nat.le_refl _) _
 have hs2:W2.heap.size=w.heap.size+1+1:=by rw [<- hW2];simp [hs1]
 have hr2:W2.heap[w.heap.size+1]? =some (.cells #[.slice none 0 0,.int .u64 0,.int .u64 0,.int .u64 0,.int .u64 0,.int .u64 0,.int .u64 0,.int .u64 0,.int .u64 0,.int .u64 0,.int .u64 0,.int .u64 0,.int .u64 0,.int .u64 0,.int .u64 0,.int .u64 0,.int .u64 0,.int .u64 0,.int .u64 0,.int .u64 0,.int .u64 0] 142):=by rw [<- hW2,<-hs1];exact heap_alloc_new _ _
 obtain ⟨V3,hV3⟩:∃ V3,W2.alloc (.cells #[.slice none 0 0,.int .u64 0,.int .u64 0,.int .u64 0,.int .u64 0,.int .u64 0,.int .u64 0,.int .u64 0,.int .u64 0,.int .u64 0,.int .u64 0,.int .u64 0,.int .u64 0,.int .u64 0,.int .u64 0,.int .u64 0,.int .u64 0,.int .u64 0,.int .u64 0,.int .u64 0,.int .u64 0] 142)=V3:=⟨_,rfl⟩
 have hbv:Below W2.heap.size W2 V3:=by rw [<- hV3];exact (Below.refl _ _).alloc (Nat.le_refl _) _
 have hv3:V3.heap[w.heap.size+1+1]? =some (.cells #[.slice none 0 0,.int .u64 0,.int .u64 0,.int .u64 0,.int .u64 0,.int .u64 0,.int .u64 0,.int .u64 0,.int .u64 0,.int .u64 0,.int .u64 0,.int .u64 0,.int .u64 0,.int .u64 0,.int .u64 0,.int .u64 0,.int .u64 0,.int .u64 0,.int .u64 0,.int .u64 0,.int .u64 0] 142):=by rw [<- hV3,<-hs2];exact heap_alloc_new _ _
 have hsv:V3.heap.size=w.heap.size+1+1+1:=by rw [<- hV3];simp [hs2]
 obtain ⟨W3,hW3⟩:∃ W3,V3.setRow (w.heap.size+1+1) #[.slice A n c,.int .u64 0,.int .u64 0,.int .u64 0,.int .u64 0,.int .u64 0,.int .u64 0,.int .u64 0,.int .u64 0,.int .u64 0,.int .u64 0,.int .u64 0,.int .u64 0,.int .u64 0,.int .u64 0,.int .u64 0,.int .u64 0,.int .u64 0,.int .u64 0,.int .u64 0,.int .u64 0]=W3:=⟨_,rfl⟩
 have hb3:Below W2.heap.size W2 W3:=by rw [<- hW3];exact setRow_below hbv (by omega)
 have hs3:W3.heap.size=w.heap.size+1+1+1:=by rw [<- hW3];simp [World.setRow,hsv]
 have ht3:TBox W3 (w.heap.size+1+1) (tF [] n) A n c:=by rw [tF_nil,<-hW3];exact setRow_heap (w:=V3) (w.heap.size+1+1) _ _ _ _ hv3
 have Hi:=Lib.hid (show (Tryz.prog.info? 142).map (·.size)=some 21 from by kernel_rfl);obtain ⟨W4,hW4⟩:∃ W4,W3.alloc (.cells (zeroArr n) 3)=W4:=⟨_,rfl⟩
 have hb4:Below W3.heap.size W3 W4:=by rw [<- hW4];exact (Below.refl _ _).alloc (Nat.le_refl _) _
 have hs4:W4.heap.size=w.heap.size+1+1+1+1:=by rw [<- hW4];simp [hs3]
 have ho4:Ow W4 w.heap.size (some ⟨w.heap.size+1+1+1,0,none⟩) n n (zeros n):=by
  have:=zeroArr_ow (n:=n) (lo:=w.heap.size) (by omega) W3 (by omega);rw [hW4,hs3] at this;exact this
 have hmk:(Instr.makeSlice 23 (.int .i64 (n:Int)) (.int .i64 (n:Int))).run Tryz.prog W3=.ok (.slice (some ⟨w.heap.size+1+1+1,0,none⟩) n n) W4:=by rw [make_ints (by omega),hW4,hs3]
 have hx2:=hx1.below (by omega) hb2;have hx3:=hx2.below (by omega) hb3;have hx4:=hx3.below (by omega) hb4;have ht4:TBox W4 (w.heap.size+1+1) (tF [] n) A n c:=ht3.kept (hb4.block _ (by omega));have hr4:W4.heap[w.heap.size+1]? =some (.cells #[.slice none 0 0,.int .u64 0,.int .u64 0,.int .u64 0,.int .u64 0,.int .u64 0,.int .u64 0,.int .u64 0,.int .u64 0,.int .u64 0,.int .u64 0,.int .u64 0,.int .u64 0,.int .u64 0,.int .u64 0,.int .u64 0,.int .u64 0,.int .u64 0,.int .u64 0,.int .u64 0,.int .u64 0] 142):=(hb4.block _ (by omega)).trans ((hb3.block _ (by omega)).trans hr2)
 have hbW4:Below w.heap.size w W4:=((hb1.trans (hb2.mono (by omega))).trans (hb3.mono (by omega))).trans (hb4.mono (by omega));have HOM:=Lib.hid (openMasks_any (some ⟨w.heap.size+1+1+1,0,none⟩) n n W4.heap.size (zeros n) s W4 ho4.rd (Nat.le_refl _) (by omega) hs (fun i hi=>by rw [zeros_nth];omega));have Hel:=Lib.hid (show (emL (zeros n) s).length=n from opN_len n s);have HX4:=Lib.hid hx4;have HT4:=Lib.hid ht4;have HR4:=Lib.hid hr4;have HB4:=Lib.hid hbW4;have HS4:=Lib.hid hs4;have HMS:=Lib.hid (opN_lt (n:=n) hs);obtain ⟨x0,x1,x2⟩:=id hx3;obtain ⟨z0,z1,z2⟩:=id hx2
 clear hb1 hb2 hb3 hbv hsv hb4 hbW4 ho4 hx4 ht4 hr4 hr2 ht3 hx1 hx2 hx3;refine (callsIn_wide (n:=9)).1 ?_;refine callsIn_of_wp_marks Tryz.func130 rfl trivial ?_ rfl;simp only [Tryz.ntmps130,List.size_toArray,List.length_cons,List.length_nil,Nat.reduceAdd,Nat.reduceSub,Array.replicate_succ,Array.replicate_zero,List.push_toArray,List.append_toArray,List.nil_append,List.cons_append]
 gi_wp2_with (first
  |(refine wpListIn_store_row rfl 142 _ _ rfl (w.heap.size+1+1) #[.slice A n c,.int .u64 0,.int .u64 0,.int .u64 0,.int .u64 0,.int .u64 0,.int .u64 0,.int .u64 0,.int .u64 0,.int .u64 0,.int .u64 0,.int .u64 0,.int .u64 0,.int .u64 0,.int .u64 0,.int .u64 0,.int .u64 0,.int .u64 0,.int .u64 0,.int .u64 0,.int .u64 0] rfl rfl 142 _ hv3 Hi.out rfl (by simp [Value.oneCell']) ?_;rw [hW3])
  |((try refine ⟨trivial,?_⟩);gi_at_call 82;refine (callsIn_wide.2 HOM.out).mono ?_;rintro e w5 ⟨A5,c5,rfl,ho5,hb5⟩;rw [Hel.out] at ho5 ⊢;obtain ⟨W6,hW6⟩:∃ W6,w5.alloc (.cells #[.int .u64 1] 138)=W6:=⟨_,rfl⟩;have hb6:Below w5.heap.size w5 W6:=(by rw [<- hW6];exact (Below.refl _ _).alloc (Nat.le_refl _) _);have hx6:=(HX4.out.below (by omega:w.heap.size<W4.heap.size) hb5).below (by have:=hb5.size;omega) hb6;obtain ⟨y0,y1,y2⟩:=id hx6)
  |((try refine ⟨trivial,?_⟩);gi_at_call 168;refine (callsIn_wide.2 (waysToHold_at A c n k v A5 n c5 _ hk)).mono ?_;rintro e w7 ⟨MB,RB,rfl,hMl,hRl,hmb,hrb,hb7⟩))
 have hMB:=cell_lt hmb;have hRB:=cell_lt hrb;have hs5:=hb5.size
 have hs6:W6.heap.size=w5.heap.size+1:=by rw [<- hW6];simp
 have hs7:=hb7.size;have hb47:Below W4.heap.size W4 w7:=(hb5.trans (hb6.mono hb5.size)).trans (hb7.mono (by omega));have hs4:=HS4.out;have hb07:Below w.heap.size w w7:=HB4.out.trans (hb47.mono (by omega));have ht7:TBox w7 (w.heap.size+1+1) (tF [] n) A n c:=HT4.out.kept (hb47.block _ (by omega));have hr7:w7.heap[w.heap.size+1]? =some (.cells (tcells (fun _=>0) none 0 0) 142):=(hb47.block _ (by omega)).trans HR4.out;have hy7:w7.heap[w5.heap.size]? =some (.cells #[.int .u64 ((wyV 0:Nat):Int)] 138):=(hb7.block _ (by omega)).trans (by rw [<- hW6];exact heap_alloc_new _ _)
 have ho7:Rd w7 w7.heap.size A5 n (opN n s):=by
  have h5:=((ho5.below hb6).below hb7).rd
  exact ⟨opN_len n s,fun hn=>by
   obtain ⟨b,off,e,hl,hc⟩:=h5.2 hn
   exact ⟨b,off,e,cell_lt (hc 0 hn),hc⟩⟩
 have HA5:=Lib.hid (show ∀ b off,A5=some ⟨b,off,none⟩->W4.heap.size<=b/\b<w5.heap.size from fun b off e=>by
  obtain ⟨g,e2,h1,h2⟩:=ho5.form n1;rw [e] at e2
  injection e2 with e2
  injection e2 with e2 _ _
  omega)
 have HWS:=Lib.hid (fun x (hx:x∈waysN k v (opN n s) n)=>ways_small hx);obtain ⟨TB,hTB⟩:∃ TB,TB=w.heap.size+1+1:=⟨_,rfl⟩;obtain ⟨YB,hYB⟩:∃ YB,YB=w5.heap.size:=⟨_,rfl⟩;rw [<- hTB] at ht7 ⊢;rw [<- hYB] at hy7 HA5 ⊢
 have d7:TB<W4.heap.size:=by omega
 have d1:TB<YB:=by omega
 have d2:YB<MB:=by omega
 have d3:YB<RB:=by omega
 have d4:w.heap.size+1<TB:=by omega
 have d5:w.heap.size<=TB:=by omega
 have d6:YB<w7.heap.size:=by omega
 clear hs5 hs6 hs7 hs4 hTB hYB hb47 hb5 hb6 hb7 x0 x1 x2 z0 z1 z2 y0 y1 y2 hx6 hMl hRl;rw [show Value.agg #[.slice A n c,.int .u64 0,.int .u64 0,.int .u64 0,.int .u64 0,.int .u64 0,.int .u64 0,.int .u64 0,.int .u64 0,.int .u64 0,.int .u64 0,.int .u64 0,.int .u64 0,.int .u64 0,.int .u64 0,.int .u64 0,.int .u64 0,.int .u64 0,.int .u64 0,.int .u64 0,.int .u64 0]=Value.agg (tcells (fun _=>0) A n c) from rfl];clear hW1 hW2 hV3 hW3 hW4 hW6 hmk hv3 HR4 HT4 HX4 hs1 hs2 hs3 HOM HB4
 refine range_two 9 (q:=8) (by rfl) (enters_of Tryz.func183 (by kernel_rfl) rfl) (ways_seq MB RB w7.heap.size k A n c v A5 n c5 (opN n s) n1 n4 HMS.out hk h2)
  (fun pre X=>WBase MB RB w7.heap.size k A n c v A5 n c5 (opN n s) X/\TBox X TB (tF pre n) A n c/\X.heap[YB]? =some (.cells #[.int .u64 ((wyV pre.length:Nat):Int)] 138)/\X.heap[w.heap.size+1]? =some (.cells (tcells (fun _=>0) none 0 0) 142)/\Below w.heap.size w X)
  (fun cc X=>False)
  (fun pre X h=>h.1)
  (fun pre X Y h hb=>⟨h.1.below hb (by omega) (by omega) (by omega),h.2.1.kept (hb.block _ (by omega)),(hb.block _ (by omega)).trans h.2.2.1,(hb.block _ (by omega)).trans h.2.2.2.1,h.2.2.2.2.trans (hb.mono (by omega))⟩)
  (fun cc X Y h hb=>h)
  ⟨⟨hmb,hrb,ho7,Nat.le_refl _⟩,ht7,hy7,hr7,hb07⟩ ?assign ?body ?done ?stop
 case assign=>
  intro l v W K hK;simp only [List.setIfInBounds_toArray,List.set_cons_zero,List.set_cons_succ] at hK ⊢
  gi_wp2
  exact hK
 case body=>
  rintro l pre x X b n' c' ⟨hbX,htX,hyX,hrX,hBX⟩ hx hbb hrd;obtain ⟨hxl,hsm⟩:=HWS.out x hx
  obtain rfl:n'=n:=by rw [<- hrd.1];exact hxl
  have hXs:w7.heap.size<=X.heap.size:=hbX.2.2.2;simp only [List.setIfInBounds_toArray,List.set_cons_zero,List.set_cons_succ]
  gi_wp2
  have HSM:=Lib.hid hsm;have HRd:=Lib.hid hrd;have HtX:=Lib.hid htX;have HyX:=Lib.hid hyX;clear hsm htX hyX
  gi_loopw [26] (fun i wr=>∃ t:Nat,t<=n'/\i=.int .i64 t/\TBox wr TB (tG pre x n' t) A n' c/\X.grownBy wr (some TB)) (fun i _=>n'-(intOf i).toNat)
  case atStart=>exact ⟨0,Nat.zero_le _,rfl,by rw [tG_zero];exact HtX.out,World.grownBy.refl X _⟩
  case round=>
   obtain ⟨t,ht,rfl,hT,hgt⟩:=hrel;have hY:wr.heap[YB]? =some (.cells #[.int .u64 ((wyV pre.length:Nat):Int)] 138):=(hgt.block YB (Array.getElem?_eq_some_iff.1 HyX.out).1 (fun e=>by have:=Option.some.inj e;omega)).trans HyX.out;have hcY:=cell_of_row _ _ 0 _ _ (0,0) hY
   by_cases hlt:t<n'
   ·obtain ⟨b',off',eb,hbl,hck0⟩:=HRd.out.at_ hlt;cases eb;have hbT:b≠TB:=(by omega);have hck:=(World.cell?_of_block (a:=⟨b,0+t,none⟩) (hgt.block b hbl (fun e=>hbT (Option.some.inj e)))).trans hck0;rw [Nat.zero_add] at hck;obtain ⟨x0,x4⟩:=HSM.out t hlt;obtain ⟨z,hzv⟩:=Int.eq_ofNat_of_zero_le x0;rw [hzv] at hck;have hi20:t*5+z<20:=(by omega);have hold:=hT.cell hi20;have hfr:=hT.frozen (1+t*5+z);have hst:=hT.set hi20 (tG pre x n' t (t*5+z)|||wyV pre.length);rw [tG_step pre x hlt (by omega) (by rw [hzv];rfl)] at hst;have hor:=bits_or_u64_nat (tG pre x n' t (t*5+z)) (wyV pre.length) (by have:=tG_lt pre x n' t (t*5+z);omega) (by have:=wyV_lt pre.length;omega)
    rw [<- Nat.add_assoc] at hold hst;have hz5:(z:Int)<5:=(by omega);have ht4:(t:Int)<4:=(by omega);have hor':=Lib.hid hor;have HE1:=Lib.hid (show TBox (wr.drew.setCell ⟨TB,1+t*5+z,none⟩ (.int .u64 ((tG pre x n' t (t*5+z)|||wyV pre.length:Nat):Int))) TB (tG pre x n' (t+1)) A n' c from hst);have HE2:=Lib.hid (show X.grownBy (wr.drew.setCell ⟨TB,1+t*5+z,none⟩ (.int .u64 ((tG pre x n' t (t*5+z)|||wyV pre.length:Nat):Int))) (some TB) from (grown_drew hgt).trans grown_set);obtain ⟨f,hf⟩:∃ f,f=tG pre x n' t (t*5+z):=⟨_,rfl⟩;obtain ⟨y,hy⟩:∃ y,y=wyV pre.length:=⟨_,rfl⟩;rw [<- hf,<-hy] at HE1 HE2 hor';rw [<- hf] at hold;rw [<- hy] at hcY;clear hf hy hor hst
    gi_wp2
    refine wpIn_region_rd [31,32,33,34,35,36,37,38,39,40,41] (TbG TB t z f y) (by kernel_rfl) (by kernel_rfl) (by kernel_rfl) (by simp) ?step ?last
    case step=>
     intro i o a hi hoo hfr hpre;have e5:a.eval (.tmp 5)=.pointer (some ⟨TB,0,none⟩):=hfr 5 (by simp);have e7:a.eval (.tmp 7)=.pointer (some ⟨YB,0,none⟩):=hfr 7 (by simp);have e9:a.eval (.tmp 9)=.int .i64 t:=hfr 9 (by simp);have e10:a.eval (.tmp 10)=.int .i64 z:=hfr 10 (by simp);have hi11:i<11:=hi;have:i=0\/i=1\/i=2\/i=3\/i=4\/i=5\/i=6\/i=7\/i=8\/i=9\/i=10:=(by omega)
     rcases this with rfl|rfl|rfl|rfl|rfl|rfl|rfl|rfl|rfl|rfl|rfl
     all_goals
      simp only [List.getElem?_toArray,List.getElem?_cons_zero,List.getElem?_cons_succ,Option.some.injEq] at hoo;subst hoo
     ·refine ⟨_,?_,rfl⟩;unfold execOp;simp only [e9]
      go_simp
     ·refine ⟨_,?_,rfl⟩;unfold execOp;simp only [e10]
      go_simp
     ·refine ⟨_,?_,rfl⟩;unfold execOp;simp only [e5]
      go_simp
     ·have p2:a.eval (.tmp 33)=.pointer (some ⟨TB,1,none⟩):=hpre ⟨2,.data⟩ (by simp) rfl;have p0:a.eval (.tmp 31)=.int .i64 t:=hpre ⟨0,.data⟩ (by simp) rfl;refine ⟨_,?_,rfl⟩;unfold execOp;simp only [p2,p0]
      go_simp
     ·have p3:a.eval (.tmp 34)=.pointer (some ⟨TB,1+t*5,none⟩):=hpre ⟨3,.data⟩ (by simp) rfl;have p1:a.eval (.tmp 32)=.int .i64 z:=hpre ⟨1,.data⟩ (by simp) rfl;refine ⟨_,?_,rfl⟩;unfold execOp;simp only [p3,p1]
      go_simp
     ·have p4:a.eval (.tmp 35)=.pointer (some ⟨TB,1+t*5+z,none⟩):=hpre ⟨4,.data⟩ (by simp) rfl;refine ⟨_,?_,rfl⟩;unfold execOp;simp only [p4]
      go_simp
     ·refine ⟨_,?_,rfl⟩;unfold execOp;simp only [e7]
      go_simp
     ·have p5:a.eval (.tmp 36)=.int .u64 f:=hpre ⟨5,.data⟩ (by simp) rfl;have p6:a.eval (.tmp 37)=.int .u64 y:=hpre ⟨6,.data⟩ (by simp) rfl;refine ⟨_,?_,rfl⟩;unfold execOp;simp only [p5,p6,<-hor'.out]
      go_simp
     ·refine ⟨_,?_,rfl⟩;unfold execOp;simp only [e5]
      go_simp
     ·have p8:a.eval (.tmp 39)=.pointer (some ⟨TB,1,none⟩):=hpre ⟨8,.data⟩ (by simp) rfl;have p0:a.eval (.tmp 31)=.int .i64 t:=hpre ⟨0,.data⟩ (by simp) rfl;refine ⟨_,?_,rfl⟩;unfold execOp;simp only [p8,p0]
      go_simp
     ·have p9:a.eval (.tmp 40)=.pointer (some ⟨TB,1+t*5,none⟩):=hpre ⟨9,.data⟩ (by simp) rfl;have p1:a.eval (.tmp 32)=.int .i64 z:=hpre ⟨1,.data⟩ (by simp) rfl;refine ⟨_,?_,rfl⟩;unfold execOp;simp only [p9,p1]
      go_simp
    case last=>
     intro o a hoo hdef htm hfr hpre;simp only [List.length_cons,List.length_nil,Nat.reduceAdd,List.getElem?_toArray,List.getElem?_cons_zero,List.getElem?_cons_succ,Option.some.injEq] at hoo;subst hoo;have g0:a.tmps.getD 31 undef=.int .i64 t:=hpre 0 (by simp);have g1:a.tmps.getD 32 undef=.int .i64 z:=hpre 1 (by simp);have g2:a.tmps.getD 33 undef=.pointer (some ⟨TB,1,none⟩):=hpre 2 (by simp);have g3:a.tmps.getD 34 undef=.pointer (some ⟨TB,1+t*5,none⟩):=hpre 3 (by simp);have g4:a.tmps.getD 35 undef=.pointer (some ⟨TB,1+t*5+z,none⟩):=hpre 4 (by simp);have g5:a.tmps.getD 36 undef=.int .u64 f:=hpre 5 (by simp);have g6:a.tmps.getD 37 undef=.int .u64 y:=hpre 6 (by simp);have g7:a.tmps.getD 38 undef=.int .u64 (f|||y:Nat):=hpre 7 (by simp);have g8:a.tmps.getD 39 undef=.pointer (some ⟨TB,1,none⟩):=hpre 8 (by simp);have g9:a.tmps.getD 40 undef=.pointer (some ⟨TB,1+t*5,none⟩):=hpre 9 (by simp);have g10:a.tmps.getD 41 undef=.pointer (some ⟨TB,1+t*5+z,none⟩):=hpre 10 (by simp);have h38:a.eval (.tmp 38)=.int .u64 (f|||y:Nat):=g7;have h41:a.eval (.tmp 41)=.pointer (some ⟨TB,1+t*5+z,none⟩):=g10
     refine ⟨wr.drew.setCell ⟨TB,1+t*5+z,none⟩ (.int .u64 (f|||y:Nat)),?_,?_⟩
     ·unfold execOp;simp only [h38,h41]
      go_simp
     ·have key:=htm;simp only [List.foldl_cons,List.foldl_nil,g0,g1,g2,g3,g4,g5,g6,g7,g8,g9,g10,List.setIfInBounds_toArray,List.set_cons_succ,List.set_cons_zero] at key;clear htm hfr hpre g0 g1 g2 g3 g4 g5 g6 g7 g8 g9 g10 h38 h41 hold hcY hY;obtain ⟨tm,df⟩:=a
      dsimp only at key hdef
      subst key hdef
      gi_wp2
      exact ⟨⟨t+1,hlt,by go_num,HE1.out,HE2.out⟩,by simp [intOf];omega⟩
   ·obtain rfl:t=n':=by omega
    have hL1:(pre++[x]).length=pre.length+1:=(by simp);have hY0:=Lib.hid hY;have HT:=Lib.hid hT;have HG:=Lib.hid hgt;have hfY:=frozen_of_row _ _ 0 _ _ hY;clear hY hT
    gi_wp2
    have hg:=HG.out;have hXwr:=hg.size;have hgs:wr.grownBy (wr.setCell ⟨YB,0,none⟩ (.int .u64 (IntKind.u64.wrap (((wyV pre.length:Nat):Int)*2)))) (some YB):=grown_set;have hb1:Below w.heap.size X wr:=Below.of_grown hg hBX.size (by omega);refine ⟨(Mid.of_grown hg (by omega)).trans (Mid.setCell _ _ _ _ _ (by omega)),⟨?_,?_,?_,?_⟩,?_,?_,?_,?_⟩
    ·exact (hgs.cell_far ⟨MB,0,none⟩ (by show MB<_;omega) (fun e=>by have e:MB=YB:=Option.some.inj e;omega)).trans ((hg.cell_far ⟨MB,0,none⟩ (by show MB<_;omega) (fun e=>by have e:MB=TB:=Option.some.inj e;omega)).trans hbX.1)
    ·exact (hgs.cell_far ⟨RB,0,none⟩ (by show RB<_;omega) (fun e=>by have e:RB=YB:=Option.some.inj e;omega)).trans ((hg.cell_far ⟨RB,0,none⟩ (by show RB<_;omega) (fun e=>by have e:RB=TB:=Option.some.inj e;omega)).trans hbX.2.1)
    ·exact (hbX.2.2.1.grown hg (fun b off e=>by have:=HA5.out b off e;omega) (by omega)).grown hgs (fun b off e=>by have:=HA5.out b off e;omega) (by omega)
    ·exact Nat.le_trans (Nat.le_trans hXs hXwr) hgs.size
    ·exact (show TBox wr TB (tF (pre++[x]) t) A t c by rw [<- tG_all];exact HT.out).kept (heap_setCell_other wr ⟨YB,0,none⟩ TB _ (fun e=>by dsimp only at e;omega))
    ·rw [hL1,<-wyV_next];exact heap_setCell_same wr YB 0 _ _ _ hY0.out
    ·exact (heap_setCell_other wr ⟨YB,0,none⟩ (w.heap.size+1) _ (fun e=>by dsimp only at e;omega)).trans ((hg.block _ (by omega) (fun e=>by have:=Option.some.inj e;omega)).trans hrX)
    ·exact (hBX.trans hb1).setCell (p:=⟨YB,0,none⟩) (by show w.heap.size<=YB;omega) _
 case done=>
  rintro D W hD ⟨hbX,htX,hyX,hrX,hBX⟩ hK
  have hone:∀ F:Nat->Nat,(tcells F A n c).all (·.oneCell')=true:=fun F=>by simp [tcells,Value.oneCell']
  gi_wp2_with (first
   |(refine wpListIn_load_row rfl 142 _ rfl TB rfl 142 (tcells (tF ((allW (opN n s) n []).filter (holdsB k v)) n) A n c) (0,0) _ htX Tryz.underlying142 rfl Hi.out ?_)
   |(refine wpListIn_store_row rfl 142 _ _ rfl (w.heap.size+1) (tcells (tF ((allW (opN n s) n []).filter (holdsB k v)) n) A n c) rfl rfl 142 _ hrX Hi.out rfl (hone _) ?_))
  have hr8:=setRow_heap (w:=W) (w.heap.size+1) _ (tcells (tF ((allW (opN n s) n []).filter (holdsB k v)) n) A n c) _ _ hrX
  have hK2:(W.setRow (w.heap.size+1) (tcells (tF ((allW (opN n s) n []).filter (holdsB k v)) n) A n c)).heap[D]? =some (.deferred (some [])):=by
   unfold World.setRow;simp only [Array.getElem?_modify];rw [if_neg (by omega)];exact hK
  refine ⟨by simp,.inl ⟨_,_,rfl,run_takeDeferred hK2,?_⟩⟩;have hr9:=(World.putObj_heap_other (o:=.deferred none) (by omega:w.heap.size+1≠D)).trans hr8;exact ⟨_,results_cell_row (by rfl) _ _ (w.heap.size+1) 142 _ (0,0) _ rfl hr9 Tryz.underlying142 rfl Hi.out,rfl,(setRow_below hBX (by omega)).trans (below_put _ (by omega) hK2)⟩
 case stop=>
  rintro D cc W hD h hK;exact h.elim
end Go.Proofs.YtkeoflnmbcdmfaaGreatDoor
namespace Go.Proofs.YtkeoflnmbcdmfaaGreatDoor
open Go.ChangeShapes Go.WideShapes Go.ChangeAt Go.RowKit
theorem grown_sr0 {w:World} {g:Nat} {cs:Array Value}:w.grownBy (w.setRow g cs) (some g):=
 ⟨rfl,rfl,rfl,by simp,fun k hk hne=>by unfold World.setRow;simp only [Array.getElem?_modify];rw [if_neg (fun e=>hne (by rw [e]))]⟩
theorem grown_cell0 {w w':World} {OB b i:Nat} {v:Value} (h:w.grownBy w' (some OB)) (hc:w.cell? ⟨b,i,none⟩=some v) (hb:b≠OB):w'.cell? ⟨b,i,none⟩=some v:=
 (h.cell_far ⟨b,i,none⟩ (cell_lt hc) (fun e=>hb (Option.some.inj e))).trans hc
theorem grown_of_below6 {w w':World} {r:Option Nat} (h:Below w.heap.size w w'):w.grownBy w' r:=⟨h.os,h.tape,h.output,h.size,fun k hk _=>h.block k hk⟩
theorem grown_t2 {a b c:World} {r:Option Nat} (h:a.grownBy b r) (k:b.grownBy c r):a.grownBy c r:=h.trans k
theorem grown_ownS0 {w w1 w2:World} {OB:Nat} {r:Option Nat} (h:w.grownBy w1 (some OB)) (h2:w1.grownBy w2 r) (hr:∀ g,r=some g->w.heap.size<=g):w.grownBy w2 (some OB):=
 ⟨h2.os.trans h.os,h2.tape.trans h.tape,h2.output.trans h.output,Nat.le_trans h.size h2.size,fun k hk hne=>(h2.block k (Nat.lt_of_lt_of_le hk h.size) (fun e=>by have:=hr k e.symm;omega)).trans (h.block k hk hne)⟩
def zeroTab:Array Value:= #[.slice none 0 0,.int .u64 0,.int .u64 0,.int .u64 0,.int .u64 0,.int .u64 0,.int .u64 0,.int .u64 0,.int .u64 0,.int .u64 0,.int .u64 0,.int .u64 0,.int .u64 0,.int .u64 0,.int .u64 0,.int .u64 0,.int .u64 0,.int .u64 0,.int .u64 0,.int .u64 0,.int .u64 0]
theorem tab_info:(Tryz.prog.info? 142).map (fun i=>(i.zero,i.size,i.bytes))=some (some (.agg zeroTab),21,184):=by kernel_rfl
theorem nar_info (v0 v1:Value):(Tryz.prog.info? 94).map (·.size)=some (#[v0,v1]:Array Value).size:=by
 show _=some 2
 kernel_rfl
def NpG (NB P0:Nat) (s:Int) (A:Option Addr) (u cap:Nat) (rule cells:Array Value) (lo:Nat) (vs:List Value):Nat->Value->World->Prop
 |0,v,_=>v=.pointer (some ⟨NB,1,none⟩)
 |1,v,_=>v=.slice A u cap
 |2,v,_=>v=.agg rule
 |3,v,_=>v=.pointer (some ⟨P0,0,none⟩)
 |4,v,_=>v=.int .i64 s
 |5,v,_=>v=.agg cells
 |6,v,w=>∃ g,v=.slice (some ⟨g,0,none⟩) 1 1/\w.heap[g]? =some (.cells cells 142)/\(Value.slice A u cap).ownBlock≠some g
 |7,v,w=>∃ g' cap',v=.slice (some ⟨g',0,none⟩) (u+1) cap'/\w.ownsRow lo 142 21 (.slice (some ⟨g',0,none⟩) (u+1) cap') (u+1) (vs++cells.toList)
 |8,v,_=>v=.pointer (some ⟨NB,1,none⟩)
 |_,_,_=>True
theorem npG_eff {NB P0:Nat} {s:Int} {A:Option Addr} {u cap:Nat} {rule cells:Array Value} {lo:Nat} {vs:List Value} (j i:Nat) (v:Value) (w1 w2:World) (hji:j≠i) (he:(i=7->w1.grownBy w2 (Value.slice A u cap).ownBlock)/\(i≠7->Below w1.heap.size w1 w2)) (h:NpG NB P0 s A u cap rule cells lo vs j v w1):NpG NB P0 s A u cap rule cells lo vs j v w2:=by
 unfold NpG at h ⊢
 split at h
 all_goals first
  |exact h
  |(obtain ⟨g,e,h1,h2⟩:=h
    refine ⟨g,e,?_,h2⟩
    by_cases hi:i=7
    ·exact ((he.1 hi).block g (Array.getElem?_eq_some_iff.1 h1).1 (fun e2=>h2 e2.symm)).trans h1
    ·exact ((he.2 hi).block g (Array.getElem?_eq_some_iff.1 h1).1).trans h1)
  |(obtain ⟨g',cap',e,h1⟩:=h
    exact ⟨g',cap',e,own_below8 h1 (he.2 (fun e2=>hji e2.symm))⟩)
def NrOk (w:World) (L B Br s:Nat) (rs:List RuleM) (most:Nat) (A:Option Addr) (n:Nat):Prop:=4<=most->TbR w L B Br s rs A n
set_option maxHeartbeats 4000000 in
theorem narrower_any (s:Nat) (Ag:Option Addr) (ng cg Bg:Nat) (gi:List Int) (Ar:Option Addr) (nr cr Br:Nat) (rs:List RuleM) (most:Nat) (w:World) (hp:PGc w s Ag ng cg Bg gi Ar nr cr Br rs) (hv:pvB s gi rs=true) (hs:s∈[2,3,4]) (hmost:most<=4):
 Calls Tryz.prog 80 #[.agg #[.int .i64 s,.slice Ag ng cg,.slice Ar nr cr],.int .i64 most] w fun e w'=>∃ A n c,e=.returned (.agg #[.int .i64 s,.slice A n c])/\NrOk w' w.heap.size w'.heap.size Br s rs most A n/\Below w.heap.size w w':=by
 have hx0:=pbox_new w s Ag ng cg Ar nr cr 26;obtain ⟨Wa,hWa⟩:∃ Wa,w.alloc (.cells #[.int .i64 s,.slice Ag ng cg,.slice Ar nr cr] 26)=Wa:=⟨_,rfl⟩;rw [hWa] at hx0
 have hba:Below w.heap.size w Wa:=by rw [<- hWa];exact (Below.refl _ _).alloc (Nat.le_refl _) _
 have hsa:Wa.heap.size=w.heap.size+1:=by rw [<- hWa];simp
 obtain ⟨Wb,hWb⟩:∃ Wb,Wa.alloc (.cells #[.int .i64 0,.slice none 0 0] 94)=Wb:=⟨_,rfl⟩
 have hbb:Below Wa.heap.size Wa Wb:=by rw [<- hWb];exact (Below.refl _ _).alloc (Nat.le_refl _) _
 have hsb:Wb.heap.size=w.heap.size+1+1:=by rw [<- hWb];simp [hsa]
 have hrb:Wb.heap[w.heap.size+1]? =some (.cells #[.int .i64 0,.slice none 0 0] 94):=by rw [<- hWb,<-hsa];exact heap_alloc_new Wa _
 obtain ⟨Wd,hWd⟩:∃ Wd,Wb.alloc (.cells #[.int .i64 0,.slice none 0 0] 94)=Wd:=⟨_,rfl⟩
 have hbd:Below Wb.heap.size Wb Wd:=by rw [<- hWd];exact (Below.refl _ _).alloc (Nat.le_refl _) _
 have hsd:Wd.heap.size=w.heap.size+1+1+1:=by rw [<- hWd];simp [hsb]
 have hrd:Wd.heap[w.heap.size+1+1]? =some (.cells #[.int .i64 0,.slice none 0 0] 94):=by rw [<- hWd,<-hsb];exact heap_alloc_new Wb _
 obtain ⟨Wc,hWc⟩:∃ Wc,Wd.setRow (w.heap.size+1+1) #[.int .i64 s,.slice none 0 0]=Wc:=⟨_,rfl⟩
 have hbc:Below Wb.heap.size Wb Wc:=by rw [<- hWc];exact hbd.grown grown_sr0 hbd.size (fun k e=>by have:=Option.some.inj e;omega)
 have hsc:Wc.heap.size=w.heap.size+1+1+1:=by rw [<- hWc,<-hsd];simp [World.setRow]
 have hrc:Wc.heap[w.heap.size+1+1]? =some (.cells #[.int .i64 s,.slice none 0 0] 94):=by rw [<- hWc];exact setRow_heap (w:=Wd) _ _ _ _ _ hrd
 have hrb2:=(hbc.block (w.heap.size+1) (by omega)).trans hrb;have hx1:=hx0.below (by omega) hbb;have hx2:=hx1.below (by omega) hbc;obtain ⟨a0,a1,a2⟩:=id hx1;have Hi:=Lib.hid nar_info;have hbw:Below w.heap.size w Wc:=(hba.trans (hbb.mono (by omega))).trans (hbc.mono (by omega))
 by_cases h4:most<4
 ·have h4I:(most:Int)<4:=by omega
  have HB:=Lib.hid hbw;have hst:=Lib.hid (setRow_heap (w:=Wc) (w.heap.size+1) _ #[.int .i64 s,.slice none 0 0] 94 _ hrb2);have hgs:Wc.grownBy (Wc.setRow (w.heap.size+1) #[.int .i64 s,.slice none 0 0]) (some (w.heap.size+1)):=grown_sr0;have HB2:=Lib.hid (hbw.grown hgs hbw.size (fun k e=>by have:=Option.some.inj e;omega));clear hbw hgs hba hbb hbc hbd hx0 hx1 hx2
  go_enter Tryz.func80,Tryz.ntmps80
  go_wp2_with (first
   |(refine wpList_store_row rfl 94 _ _ rfl (w.heap.size+1+1) #[.int .i64 s,.slice none 0 0] rfl rfl 94 #[.int .i64 0,.slice none 0 0] hrd (Hi.out _ _) rfl (by simp [Value.oneCell']) ?_)
   |(refine wpList_load_row rfl 94 _ rfl (w.heap.size+1+1) rfl 94 #[.int .i64 s,.slice none 0 0] (0,0) _ hrc Tryz.underlying94 rfl (Hi.out _ _) ?_)
   |(refine wpList_store_row rfl 94 _ _ rfl (w.heap.size+1) #[.int .i64 s,.slice none 0 0] rfl rfl 94 #[.int .i64 0,.slice none 0 0] hrb2 (Hi.out _ _) rfl (by simp [Value.oneCell']) ?_))
  refine bodyPost_ret (v:=.agg #[.int .i64 s,.slice none 0 0]) (results_cell_row (by rfl) _ _ (w.heap.size+1) 94 _ (0,0) _ rfl hst.out Tryz.underlying94 rfl (Hi.out _ _)) rfl ?_;exact ⟨none,0,0,rfl,fun h=>absurd h (by omega),HB2.out⟩
 ·obtain rfl:most=4:=by omega
  obtain ⟨br,offr,RA,RC,hRA,hRu⟩:=rdrc_fun8 hp.r;have hrl:=hp.r.1
  have hnr:nr<=20:=by rw [<- hrl];exact (pv_gv hv).2.1
  have hall:=(pv_gv hv).2.2;have HRA:=Lib.hid hRA;have HRu:=Lib.hid hRu;have HAL:=Lib.hid hall;have HBw:=Lib.hid hbw;have hBr:=hp.rB;have HX:=Lib.hid hx2;obtain ⟨q0,q1,q2⟩:=id hx2;have hrbH:=Lib.hid hrb2;clear hRA hRu hall hba hbb hbc hbd hx0 hx1 hx2 hrb hrb2 hp hbw
  go_enter Tryz.func80,Tryz.ntmps80
  go_wp2_with (refine wpList_store_row rfl 94 _ _ rfl (w.heap.size+1+1) #[.int .i64 s,.slice none 0 0] rfl rfl 94 #[.int .i64 0,.slice none 0 0] hrd (Hi.out _ _) rfl (by simp [Value.oneCell']) ?_)
  clear hrd q0 q1 q2 a0 a1 a2
  go_loopw [17] (fun i wr=>∃ (u:Nat) (A:Option Addr) (cap:Nat),u<=nr/\i=.int .i64 u/\wr.heap[w.heap.size+1+1]? =some (.cells #[.int .i64 s,.slice A u cap] 94)/\wr.ownsRow Wc.heap.size 142 21 (.slice A u cap) u (tabV s RA RC rs u)/\Wc.grownBy wr (some (w.heap.size+1+1))) (fun i _=>nr-(intOf i).toNat)
  case atStart=>exact ⟨0,none,0,Nat.zero_le _,rfl,hrc,World.ownsRow_nil _ _ _ _,World.grownBy.refl _ _⟩
  case round=>
   clear hrc;obtain ⟨u,A,cap,hu,rfl,hrn,hown,hg⟩:=hrel
   by_cases hlt:u<nr
   ·have hltI:(u:Int)<(nr:Int):=(by omega);obtain ⟨hAre,hbr⟩:=HRA.out (by omega);obtain ⟨k0,k1,k2,hrd,hrcap⟩:=HRu.out u hlt;have hv0:=HAL.out u (by omega);obtain ⟨_,⟨hn1,hn4⟩,hk2,_⟩:=rv_facts rfl hv0;have hk:=rv_kind hv0;have HPu:Hid (tabV s RA RC rs (u+1)=tabV s RA RC rs u++(tcells (rtF s (rat rs u)) (RA u) (rat rs u).xs.length (RC u)).toList):=Lib.hid rfl;have hFF:rtF s (rat rs u)=tF (rW (rat rs u).k (rat rs u).v (rat rs u).xs.length s) (rat rs u).xs.length:=rfl;obtain ⟨F,hF⟩:∃ F,F=rtF s (rat rs u):=⟨_,rfl⟩;obtain ⟨rk,hrk⟩:∃ x,x=(rat rs u).k:=⟨_,rfl⟩
    obtain ⟨l,hrx⟩:∃ x,x=(rat rs u).xs.length:=⟨_,rfl⟩;obtain ⟨rvv,hrvv⟩:∃ x,x=(rat rs u).v:=⟨_,rfl⟩;obtain ⟨A',hA'⟩:∃ x,x=RA u:=⟨_,rfl⟩;obtain ⟨C',hC'⟩:∃ x,x=RC u:=⟨_,rfl⟩;rw [<- hF,<-hA',<-hrx,<-hC'] at HPu;rw [<- hF,<-hrk,<-hrx,<-hrvv] at hFF;rw [<- hrk] at k0 hk hk2;rw [<- hrx] at k1 hn1 hn4 hk2;rw [<- hrvv] at k2;rw [<- hA',<-hC'] at k1;have hB1:Below Br w wr:=(HBw.out.mono hBr).trans ((Below.refl Br Wc).grown hg (by omega) (fun k e=>by have:=Option.some.inj e;omega));have k0:=(hB1.cell (p:=⟨br,offr+u*3,none⟩) hbr).trans k0;have k1:=(hB1.cell (p:=⟨br,offr+u*3+1,none⟩) hbr).trans k1;have k2:=(hB1.cell (p:=⟨br,offr+u*3+2,none⟩) hbr).trans k2
    obtain ⟨x0,x1,x2⟩:PBox wr w.heap.size s Ag ng cg Ar nr cr:=by
     obtain ⟨y0,y1,y2⟩:=HX.out;exact ⟨grown_cell0 hg y0 (by omega),grown_cell0 hg y1 (by omega),grown_cell0 hg y2 (by omega)⟩
    obtain ⟨W,hW⟩:∃ W,wr.alloc (.cells #[.int .i64 rk,.slice A' l C',.int .i64 rvv] 88)=W:=⟨_,rfl⟩;have hbW:Below wr.heap.size wr W:=(by rw [<- hW];exact (Below.refl _ _).alloc (Nat.le_refl _) _);have hsW:W.heap.size=wr.heap.size+1:=(by rw [<- hW];simp);have hr0:W.heap[wr.heap.size]? =some (.cells #[.int .i64 rk,.slice A' l C',.int .i64 rvv] 88):=(by rw [<- hW];exact heap_alloc_new wr _);have y0:W.cell? ⟨wr.heap.size,0,none⟩=some (.int .i64 rk):=cell_of_row _ _ 0 _ _ (0,0) hr0;have y1:W.cell? ⟨wr.heap.size,1,none⟩=some (.slice A' l C'):=cell_of_row _ _ 1 _ _ (0,0) hr0;have y2:W.cell? ⟨wr.heap.size,2,none⟩=some (.int .i64 rvv):=cell_of_row _ _ 2 _ _ (0,0) hr0;have HTb:=Lib.hid (fun w'=>table_any A' C' l rk rvv s w' hs hn1 hn4 hk hk2);rw [<- hFF] at HTb;have hgs:=hg.size;have hrnW:=(hbW.block _ (Array.getElem?_eq_some_iff.1 hrn).1).trans hrn;have z1:W.cell? ⟨w.heap.size+1+1,1,none⟩=some (.slice A u cap):=cell_of_row _ _ 1 _ _ (0,0) hrnW;have p0:W.cell? ⟨w.heap.size,0,none⟩=some (.int .i64 s):=(hbW.cell (p:=⟨w.heap.size,0,none⟩) (cell_lt x0)).trans x0;have hownW:=own_below8 hown hbW;have HOW:=Lib.hid (fun w' (hb:Below W.heap.size W w')=>own_below8 hownW hb)
    have Hown:=Lib.hid (fun (g:Nat) (e:(Value.slice A u cap).ownBlock=some g)=>(⟨(World.ownsRow.lt hown g e).1,(World.ownsRow.lt hown g e).2⟩:Wc.heap.size<=g/\g<wr.heap.size));have HF:=Lib.hid (fun (w':World) (hg:W.grownBy w' (Value.slice A u cap).ownBlock)=>(⟨(hg.cell_far ⟨w.heap.size+1+1,1,none⟩ (cell_lt z1) (fun e=>by have:=Hown.out (w.heap.size+1+1) e.symm;omega)).trans z1,(hg.cell_far ⟨w.heap.size,0,none⟩ (cell_lt p0) (fun e=>by have:=Hown.out (w.heap.size) e.symm;omega)).trans p0,(hg.cell_far ⟨wr.heap.size,0,none⟩ (cell_lt y0) (fun e=>by have:=Hown.out (wr.heap.size) e.symm;omega)).trans y0,(hg.cell_far ⟨wr.heap.size,1,none⟩ (cell_lt y1) (fun e=>by have:=Hown.out (wr.heap.size) e.symm;omega)).trans y1,(hg.cell_far ⟨wr.heap.size,2,none⟩ (cell_lt y2) (fun e=>by have:=Hown.out (wr.heap.size) e.symm;omega)).trans y2,(hg.block _ (Array.getElem?_eq_some_iff.1 hrnW).1 (fun e=>by have:=Hown.out (w.heap.size+1+1) e.symm;omega)).trans hrnW⟩:w'.cell? ⟨w.heap.size+1+1,1,none⟩=some (.slice A u cap)/\w'.cell? ⟨w.heap.size,0,none⟩=some (.int .i64 s)/\w'.cell? ⟨wr.heap.size,0,none⟩=some (.int .i64 rk)/\w'.cell? ⟨wr.heap.size,1,none⟩=some (.slice A' l C')/\w'.cell? ⟨wr.heap.size,2,none⟩=some (.int .i64 rvv)/\w'.heap[w.heap.size+1+1]? =some (.cells #[.int .i64 s,.slice A u cap] 94)))
    obtain ⟨i0,hi0,hz0,hz1,hz2⟩:=info_parts tab_info;have Hlt:=Lib.hid hlt;have Hg:=Lib.hid hg;have HbW:=Lib.hid hbW;obtain ⟨vs,hvs⟩:∃ vs,vs=tabV s RA RC rs u:=⟨_,rfl⟩;rw [<- hvs] at HOW HPu;subst hAre;clear hvs hF hFF hrk hrx hrvv hA' hC' hownW hown hrd hrcap hv0 hk hk2 hB1 hr0 hrnW hg z1 p0 y0 y1 y2 hbW
    go_wp2
    refine wp_region_dsS [21,22,23,24,25,26,27,28,29] (NpG (w.heap.size+1+1) w.heap.size s A u cap #[.int .i64 rk,.slice A' l C',.int .i64 rvv] (tcells F A' l C') Wc.heap.size vs) (fun w1 w2=>w1.grownBy w2 (Value.slice A u cap).ownBlock) (fun i w1 w2=>(i=7->w1.grownBy w2 (Value.slice A u cap).ownBlock)/\(i≠7->Below w1.heap.size w1 w2)) (fun j w'=>j=7->w'.ownsRow Wc.heap.size 142 21 (.slice A u cap) u vs) (fun _ _=>HOW.out _ ((Below.refl _ _).drew)) (grown_drew (World.grownBy.refl W _)) (fun _ _ h h'=>h.trans h') (by kernel_rfl) (by kernel_rfl) (by simp) (fun j i v w1 w2 hji _ he hg=>npG_eff j i v w1 w2 hji he hg) ?step ?last
    case step=>
     intro i o a w' K D hD hcl hi hoo hrel hfr hpre hC hK;have eN:a.eval (.tmp 5)=.pointer (some ⟨w.heap.size+1+1,0,none⟩):=hfr 5 (by simp);have eR:a.eval (.tmp 7)=.pointer (some ⟨wr.heap.size,0,none⟩):=hfr 7 (by simp);have eP:a.eval (.tmp 2)=.pointer (some ⟨w.heap.size,0,none⟩):=hfr 2 (by simp);obtain ⟨kN,kP,k0,k1,k2,_⟩:=HF.out w' hrel
     have hkeep:∀ (v:Value),i≠7->NpG (w.heap.size+1+1) w.heap.size s A u cap #[.int .i64 rk,.slice A' l C',.int .i64 rvv] (tcells F A' l C') Wc.heap.size vs i v w'->K (a.put o.dst v) w':=fun v h10 hv=>hK v w' (World.grownBy.refl _ _) ⟨fun e=>absurd e h10,fun _=>Below.refl _ _⟩ (fun j _ _ h=>h) hv
     have hi9:i<9:=hi;have:i=0\/i=1\/i=2\/i=3\/i=4\/i=5\/i=6\/i=7\/i=8:=(by omega)
     rcases this with rfl|rfl|rfl|rfl|rfl|rfl|rfl|rfl|rfl
     all_goals
      simp only [List.getElem?_toArray,List.getElem?_cons_zero,List.getElem?_cons_succ,Option.some.injEq] at hoo;subst hoo
     ·refine oper_val (v:=.pointer (some ⟨w.heap.size+1+1,1,none⟩)) (w':=w') ?_ (hkeep _ (by decide) rfl);unfold execOp;simp only [eN]
      go_simp
     ·have p0:a.eval (.tmp 21)=.pointer (some ⟨w.heap.size+1+1,1,none⟩):=hpre ⟨0,.data⟩ (by simp) rfl;refine oper_val (v:=.slice A u cap) (w':=w') ?_ (hkeep _ (by decide) rfl);unfold execOp;simp only [p0]
      go_simp
     ·refine oper_val (v:=.agg #[.int .i64 rk,.slice A' l C',.int .i64 rvv]) (w':=w') ?_ (hkeep _ (by decide) rfl);unfold execOp;simp only [eR]
      go_simp
     ·refine oper_val (v:=.pointer (some ⟨w.heap.size,0,none⟩)) (w':=w') ?_ (hkeep _ (by decide) rfl);unfold execOp;simp only [eP]
      go_simp
     ·have p3:a.eval (.tmp 24)=.pointer (some ⟨w.heap.size,0,none⟩):=hpre ⟨3,.data⟩ (by simp) rfl;refine oper_val (v:=.int .i64 s) (w':=w') ?_ (hkeep _ (by decide) rfl);unfold execOp;simp only [p3]
      go_simp
     ·have p2:a.eval (.tmp 23)=.agg #[.int .i64 rk,.slice A' l C',.int .i64 rvv]:=hpre ⟨2,.data⟩ (by simp) rfl;have p4:a.eval (.tmp 25)=.int .i64 s:=hpre ⟨4,.data⟩ (by simp) rfl;refine oper_call (f:=130) (args:= #[.agg #[.int .i64 rk,.slice A' l C',.int .i64 rvv],.int .i64 s]) ?_ (HTb.out w') ?_
      ·unfold execOp
       go_simp
       exact ⟨by simpa [Act.eval] using p2,by simpa [Act.eval] using p4⟩
      ·rintro e w6 ⟨rfl,hb6⟩;exact ⟨_,rfl,hK _ w6 (grown_of_below6 hb6) ⟨fun e=>absurd e (by decide),fun _=>hb6⟩ (fun j hj _ h e=>own_below8 (h e) hb6) rfl⟩
     ·have p5:a.eval (.tmp 26)=.agg (tcells F A' l C'):=hpre ⟨5,.data⟩ (by simp) rfl;have p5':a.tmps[26]?.getD undef=.agg (tcells F A' l C'):=(by simpa [Act.eval] using p5);refine oper_val (v:=.slice (some ⟨w'.heap.size,0,none⟩) 1 1) (w':=w'.alloc (.cells (tcells F A' l C') 142)) ?_ (hK _ _ (only_alloc (World.grownBy.refl _ _) _) ⟨fun e=>by omega,fun _=>(Below.refl _ _).alloc (Nat.le_refl _) _⟩ (fun j hj hd h e=>own_below8 (h e) ((Below.refl _ _).alloc (Nat.le_refl _) _)) ⟨w'.heap.size,rfl,heap_alloc_new _ _,fun e=>by have h1:=Hown.out _ e;have h2:=hrel.size;omega⟩)
      unfold execOp;unfold tcells at p5' ⊢
      go_simp
     ·have p1:a.eval (.tmp 22)=.slice A u cap:=hpre ⟨1,.data⟩ (by simp) rfl;obtain ⟨g9,p6,q6,_⟩:∃ g,a.eval (.tmp 27)=.slice (some ⟨g,0,none⟩) 1 1/\w'.heap[g]? =some (.cells (tcells F A' l C') 142)/\(Value.slice A u cap).ownBlock≠some g:=hpre ⟨6,.data⟩ (by simp) rfl;have hw's:=hrel.size;obtain ⟨g',cap',wz,hrun,h1,h2,h3,_⟩:=run_append_lies (P:=Tryz.prog) w' 92 92 Wc.heap.size 142 i0 (.agg zeroTab) 21 184 Tryz.underlying92 hi0 hz0 hz1 hz2 rfl (by decide) (.slice A u cap) u vs (hC rfl) ⟨g9,0,none⟩ 1 1 (tcells F A' l C').toList rfl (World.news_of_block (cs:=tcells F A' l C') q6) (by simp [tcells,Value.oneCell']) (by decide) (by simp only [maxLen];omega) (by omega) (by omega) _ rfl
      refine oper_val (v:=.slice (some ⟨g',0,none⟩) (u+1) cap') (w':=wz) ?_ (hK _ _ h2 ⟨fun _=>h2,fun e=>absurd rfl e⟩ (fun j hj _ _ e=>absurd e hj) ⟨g',cap',rfl,h1⟩);unfold execOp;simp only [resolve,invoke,builtin,Sem.run_bind,Sem.run_pure,Result.andThen_ok,List.map_toArray,List.map_cons,List.map_nil,p1,p6,hrun]
     ·refine oper_val (v:=.pointer (some ⟨w.heap.size+1+1,1,none⟩)) (w':=w') ?_ (hkeep _ (by decide) rfl);unfold execOp;simp only [eN]
      go_simp
    case last=>
     intro o a w5 hoo hrel hdef htm hfr hpre;simp only [List.length_cons,List.length_nil,Nat.reduceAdd,List.getElem?_toArray,List.getElem?_cons_zero,List.getElem?_cons_succ,Option.some.injEq] at hoo;subst hoo;have g0:a.tmps.getD 21 undef=.pointer (some ⟨w.heap.size+1+1,1,none⟩):=hpre 0 (by simp);have g1:a.tmps.getD 22 undef=.slice A u cap:=hpre 1 (by simp);have g2:a.tmps.getD 23 undef=.agg #[.int .i64 rk,.slice A' l C',.int .i64 rvv]:=hpre 2 (by simp);have g3:a.tmps.getD 24 undef=.pointer (some ⟨w.heap.size,0,none⟩):=hpre 3 (by simp);have g4:a.tmps.getD 25 undef=.int .i64 s:=hpre 4 (by simp);have g5:a.tmps.getD 26 undef=.agg (tcells F A' l C'):=hpre 5 (by simp);obtain ⟨b6,g6,_⟩:∃ g,a.tmps.getD 27 undef=.slice (some ⟨g,0,none⟩) 1 1/\_:=hpre 6 (by simp);obtain ⟨g',cap',g7,h4⟩:∃ g' cap',a.tmps.getD 28 undef=.slice (some ⟨g',0,none⟩) (u+1) cap'/\w5.ownsRow Wc.heap.size 142 21 (.slice (some ⟨g',0,none⟩) (u+1) cap') (u+1) (vs++(tcells F A' l C').toList):=hpre 7 (by simp);have g8:a.tmps.getD 29 undef=.pointer (some ⟨w.heap.size+1+1,1,none⟩):=hpre 8 (by simp);have h28:a.eval (.tmp 28)=.slice (some ⟨g',0,none⟩) (u+1) cap':=g7
     have h29:a.eval (.tmp 29)=.pointer (some ⟨w.heap.size+1+1,1,none⟩):=g8;obtain ⟨kN,_,_,_,_,hr5⟩:=HF.out w5 hrel;have hf5:=frozen_of_row w5 (w.heap.size+1+1) 1 _ _ hr5;refine ⟨w5.setCell ⟨w.heap.size+1+1,1,none⟩ (.slice (some ⟨g',0,none⟩) (u+1) cap'),?_,?_⟩
     ·unfold execOp;simp only [h28,h29]
      go_simp
     ·have key:=htm;simp only [List.foldl_cons,List.foldl_nil,g0,g1,g2,g3,g4,g5,g6,g7,g8,List.setIfInBounds_toArray,List.set_cons_succ,List.set_cons_zero] at key;have hr6:=heap_setCell_same w5 (w.heap.size+1+1) 1 _ _ (.slice (some ⟨g',0,none⟩) (u+1) cap') hr5;clear htm hfr hpre g0 g1 g2 g3 g4 g5 g6 g7 g8 h28 h29 hf5 kN hr5;obtain ⟨tm,df⟩:=a
      dsimp only at key hdef
      subst key hdef;have hlt4':=(World.ownsRow.lt h4 g' rfl).1
      have h6:=own_kept8 h4 (grown_set (G:=w.heap.size+1+1) (i:=1) (v:=.slice (some ⟨g',0,none⟩) (u+1) cap')) (fun g e=>by
       have e1:g'=g:=(by simpa [Value.ownBlock] using e);intro e2;have e3:w.heap.size+1+1=g:=Option.some.inj e2
       omega)
      rw [<- HPu.out] at h6;have hg5:Wc.grownBy (w5.setCell ⟨w.heap.size+1+1,1,none⟩ (.slice (some ⟨g',0,none⟩) (u+1) cap')) (some (w.heap.size+1+1)):=grown_t2 (grown_ownS0 (grown_t2 Hg.out (grown_of_below6 HbW.out)) hrel (fun g e=>(Hown.out g e).1)) grown_set;clear h4
      go_wp2
      go_roundw
      case rel=>exact ⟨u+1,some ⟨g',0,none⟩,cap',Hlt.out,by go_num,hr6,h6,hg5⟩
      case measure=>have:=Hlt.out;simp [intOf];omega
   ·obtain rfl:u=nr:=by omega
    have hrR:=(hg.block (w.heap.size+1) (by omega) (fun e=>by have:=Option.some.inj e;omega)).trans hrbH.out;have hgS:wr.grownBy (wr.setRow (w.heap.size+1) #[.int .i64 s,.slice A u cap]) (some (w.heap.size+1)):=grown_sr0;have hst:=Lib.hid (setRow_heap (w:=wr) (w.heap.size+1) _ #[.int .i64 s,.slice A u cap] 94 _ hrR);have hbr:Below w.heap.size w wr:=HBw.out.grown hg HBw.out.size (fun k e=>by have:=Option.some.inj e;omega);have HB2:=Lib.hid (hbr.grown hgS hbr.size (fun k e=>by have:=Option.some.inj e;omega))
    have hownS:=own_kept8 hown hgS (fun g e=>by
     have:=(World.ownsRow.lt hown g e).1;intro e2;have e3:w.heap.size+1=g:=Option.some.inj e2
     omega)
    have HTB:=Lib.hid (show TbR (wr.setRow (w.heap.size+1) #[.int .i64 s,.slice A u cap]) w.heap.size (wr.setRow (w.heap.size+1) #[.int .i64 s,.slice A u cap]).heap.size Br s rs A u from tbr_own hownS hrl (fun j hj=>(HRu.out j hj).2.2.2.1.below (HB2.out.mono hBr)) (by omega));have Hrn:=Lib.hid hrn;have HrR:=Lib.hid hrR;clear hrn hrR hgS hbr hownS hown hg
    go_wp2_with (first
     |(refine wpList_load_row rfl 94 _ rfl (w.heap.size+1+1) rfl 94 #[.int .i64 s,.slice A u cap] (0,0) _ Hrn.out Tryz.underlying94 rfl (Hi.out _ _) ?_)
     |(refine wpList_store_row rfl 94 _ _ rfl (w.heap.size+1) #[.int .i64 s,.slice A u cap] rfl rfl 94 #[.int .i64 0,.slice none 0 0] HrR.out (Hi.out _ _) rfl (by simp [Value.oneCell']) ?_))
    refine bodyPost_ret (v:=.agg #[.int .i64 s,.slice A u cap]) (results_cell_row (by rfl) _ _ (w.heap.size+1) 94 _ (0,0) _ rfl hst.out Tryz.underlying94 rfl (Hi.out _ _)) rfl ?_;exact ⟨A,u,cap,rfl,fun _=>HTB.out,HB2.out⟩
theorem clone_any (A:Option Addr) (n c B:Nat) (xs:List Int) (w:World) (h:Rd w B A n xs) (hB:B<=w.heap.size) (hn:0<n) (hm:n<=1099511627776):
 Calls Tryz.prog 70 #[.slice A n c] w fun e w'=>∃ A' c',e=.returned (.slice A' n c')/\Ow w' w.heap.size A' n c' xs/\Below w.heap.size w w':=by
 obtain ⟨b,off,rfl,_,_⟩:=h.at_ hn;have hb0:Below w.heap.size w (w.alloc (.cells #[] 3)):=(Below.refl _ _).alloc (Nat.le_refl _) _;have HO:=Lib.hid (Ow.made0 w w.heap.size (Nat.le_refl _));have HR:=Lib.hid (h.below (hb0.mono hB))
 have hsO:w.heap.size<=(w.alloc (.cells #[] 3)).heap.size:=by simp
 have hcmp:=fun w'=>Lib.run_eql_slice_nil (P:=Tryz.prog) w' 23 3 (some ⟨b,off,none⟩) n c 0 0 Tryz.underlying23
 go_enter Tryz.func70,Tryz.ntmps70
 go_wp2_with (at_builtin;(refine push_new rfl (.tmp 5) (.tmp 6) rfl w.heap.size (some ⟨w.heap.size,0,none⟩) (some ⟨b,off,none⟩) n c B xs rfl rfl HO.out HR.out hm hsO ?_);intro A1 c1 w1 ho1 hg1;have hb1:=hb0.grown hg1 hb0.size (fun k hk=>HO.out.own_lo k hk))
 go_ret
 exact ⟨_,_,rfl,ho1,hb1⟩
theorem equal_any (A A':Option Addr) (c c' n n' B B':Nat) (xs ys:List Int) (w:World) (h:Rd w B A n xs) (h':Rd w B' A' n' ys) (hm:n<=1099511627776):
 Calls Tryz.prog 170 #[.slice A n c,.slice A' n' c'] w fun e w'=>e=.returned (.bool (same xs ys))/\Below w.heap.size w w':=by
 have hl:=Lib.hid h.1;have hl':=Lib.hid h'.1
 by_cases hnn:n=n'
 ·subst hnn
  go_enter Tryz.func170,Tryz.ntmps170
  go_wp2
  go_loopw [13] (fun i wr=>∃ k:Nat,k<=n/\i=.int .i64 k/\eqTo xs ys k/\Below w.heap.size w wr/\Rd wr B A n xs/\Rd wr B' A' n ys) (fun i _=>n-(intOf i).toNat)
  case atStart=>exact ⟨0,Nat.zero_le _,rfl,eqTo_zero,Below.refl _ _,h,h'⟩
  case round=>
   obtain ⟨k,hk,rfl,heq,hb,hr,hr'⟩:=hrel
   by_cases hlt:k<n
   ·obtain ⟨b,off,rfl,hbB,hck⟩:=hr.at_ hlt;obtain ⟨b',off',rfl,hbB',hck'⟩:=hr'.at_ hlt;have hltI:(k:Int)<(n:Int):=(by omega)
    by_cases e:nth xs k=nth ys k
    ·have hne:(nth xs k != nth ys k)=false:=(by simp [e]);have He:=Lib.hid e;clear e
     go_wp2
     go_quiet (fail)
     go_wp2
     go_roundw
     case rel=>exact ⟨k+1,by omega,by go_num,eqTo_succ heq He.out,below_drewN hb _,hr,hr'⟩
     case measure=>simp [intOf];omega
    ·have hne:(nth xs k != nth ys k)=true:=(by simp [e]);have He:=Lib.hid e;clear e
     go_wp2
     go_quiet (fail)
     go_wp2
     go_ret
     exact ⟨by rw [same_f He.out];rfl,below_drewN hb _⟩
   ·obtain rfl:k=n:=by omega
    go_wp2
    go_ret
    exact ⟨by rw [same_t hl.out hl'.out heq];rfl,hb⟩
 ·have hne:((n:Int) != (n':Int))=true:=by rw [bne_iff_ne];omega
  go_enter Tryz.func170,Tryz.ntmps170
  go_wp2
  go_ret
  exact ⟨by rw [same_len (by rw [hl.out,hl'.out];exact hnn)];rfl,Below.refl _ _⟩
def ntF (s:Int) (gi:List Int) (rs:List RuleM) (o:List Int):Nat->Nat->Option (List Int×Nat)
 |0,_=>none
 |d+1,t=>if nbL s gi rs o t=o then ntF s gi rs o d (t+1) else some (nbL s gi rs o t,t)
def naI (s:Int) (gi:List Int) (rs:List RuleM) (most:Nat):Nat->List Int->Nat->List Int×Nat
 |0,o,r=>(o,r)
 |f+1,o,r=>match ntF s gi rs o most 1 with
  |none=>(o,r)
  |some q=>naI s gi rs most f q.1 (r+1)
theorem ntF_some {s:Int} {gi:List Int} {rs:List RuleM} {o q:List Int} {u:Nat}:∀ {d t:Nat},ntF s gi rs o d t=some (q,u)->t<=u/\u<t+d/\q=nbL s gi rs o u/\q≠o/\∀ v,t<=v->v<u->nbL s gi rs o v=o:=by
 intro d
 induction d with
 |zero=>intro t h;cases h
 |succ d ih=>
  intro t h;simp only [ntF] at h
  split at h
  ·next e=>
   obtain ⟨h1,h2,h3,h4,h5⟩:=ih h;refine ⟨by omega,by omega,h3,h4,fun v v1 v2=>?_⟩
   by_cases ev:v=t
   ·subst ev;exact e
   ·exact h5 v (by omega) v2
  ·next e=>
   injection h with h
   injection h with h1 h2
   subst h1 h2;exact ⟨Nat.le_refl _,by omega,rfl,e,fun v v1 v2=>absurd v2 (by omega)⟩
theorem ntF_of {s:Int} {gi:List Int} {rs:List RuleM} {o:List Int}:∀ {d t:Nat},(∀ v,t<=v->v<t+d->nbL s gi rs o v=o)->ntF s gi rs o d t=none:=by
 intro d
 induction d with
 |zero=>intro t _;rfl
 |succ d ih=>
  intro t h;simp only [ntF];rw [if_pos (h t (Nat.le_refl _) (by omega))];exact ih (fun v h1 h2=>h v (by omega) (by omega))
theorem ntF_at {s:Int} {gi:List Int} {rs:List RuleM} {o q:List Int} {t:Nat}:∀ {d u:Nat},(∀ v,u<=v->v<t->nbL s gi rs o v=o)->u<=t->t<u+d->q=nbL s gi rs o t->q≠o->ntF s gi rs o d u=some (q,t):=by
 intro d
 induction d with
 |zero=>intro u _ h1 h2;omega
 |succ d ih=>
  intro u h h1 h2 hq hne;simp only [ntF]
  by_cases e:u=t
  ·subst e;rw [<- hq,if_neg hne]
  ·rw [if_pos (h u (Nat.le_refl _) (by omega))];exact ih (fun v v1 v2=>h v (by omega) v2) (by omega) (by omega) hq hne
theorem sum_30 {o:List Int} {s:Int} (h:mvd o s=true):∀ k,sumTo o k<=30*k:=by
 intro k
 induction k with
 |zero=>exact Nat.le_refl _
 |succ k ih=>
  have:=mvd_nth h k;simp only [sumTo];omega
theorem sum_480 {o:List Int} {s:Int} (h:mvd o s=true):sumTo o o.length<=480:=by
 have h1:=sum_30 h o.length;have h2:=(mvd_at h).2.2.1;omega
section
variable {s : Int} {gi : List Int} {rs : List RuleM} {most : Nat}
theorem ntF_sub {o q:List Int} {u:Nat} (hv:pvB s gi rs=true) (h4:most<=4) (hm:mvd o s=true) (h:ntF s gi rs o most 1=some (q,u)):Sub q o/\mvd q s=true/\sumTo q q.length<sumTo o o.length:=by
 obtain ⟨h1,h2,h3,h5,_⟩:=ntF_some h
 have hs:Sub q o:=by rw [h3];exact nb_sub hv hm (by omega) (by omega)
 exact ⟨hs,hs.mvd_ hm,by have:=sum_lt hs h5;rw [hs.1];exact this⟩
theorem naI_fuel (hv:pvB s gi rs=true) (h4:most<=4):∀ f f' o r,mvd o s=true->sumTo o o.length<f->sumTo o o.length<f'->naI s gi rs most f o r=naI s gi rs most f' o r:=by
 intro f
 induction f with
 |zero=>intro f' o r _ h _;omega
 |succ f ih=>
  intro f' o r hm h1 h2
  match f',h2 with
  |0,h2=>omega
  |f'+1,h2=>
   simp only [naI]
   cases e:ntF s gi rs o most 1 with
   |none=>rfl
   |some q=>
    obtain ⟨_,q2,q3⟩:=ntF_sub hv h4 hm (q:=q.1) (u:=q.2) e;exact ih f' q.1 (r+1) q2 (by omega) (by omega)
def naE (s:Int) (gi:List Int) (rs:List RuleM) (most:Nat) (o:List Int) (r:Nat):List Int×Nat:=naI s gi rs most (sumTo o o.length+1) o r
theorem naE_none {o:List Int} {r:Nat} (h:ntF s gi rs o most 1=none):naE s gi rs most o r=(o,r):=by simp only [naE,naI,h]
theorem naE_some {o q:List Int} {u r:Nat} (hv:pvB s gi rs=true) (h4:most<=4) (hm:mvd o s=true) (h:ntF s gi rs o most 1=some (q,u)):naE s gi rs most o r=naE s gi rs most q (r+1):=by
 obtain ⟨_,q2,q3⟩:=ntF_sub hv h4 hm h;unfold naE;rw [show naI s gi rs most (sumTo o o.length+1) o r=naI s gi rs most (sumTo o o.length) q (r+1) from by simp only [naI,h]];exact naI_fuel hv h4 _ _ _ _ q2 (by omega) (by omega)
theorem naI_ind (P:List Int->Prop) (hv:pvB s gi rs=true) (h4:most<=4) (hP:∀ o t,mvd o s=true->1<=t->t<=most->P o->P (nbL s gi rs o (t:Nat))):∀ f o r,mvd o s=true->P o->P (naI s gi rs most f o r).1/\mvd (naI s gi rs most f o r).1 s=true:=by
 intro f
 induction f with
 |zero=>intro o r hm h;exact ⟨h,hm⟩
 |succ f ih=>
  intro o r hm h;simp only [naI]
  cases e:ntF s gi rs o most 1 with
  |none=>exact ⟨h,hm⟩
  |some q=>
   obtain ⟨h1,h2,h3,_,_⟩:=ntF_some (q:=q.1) (u:=q.2) e;obtain ⟨_,q2,_⟩:=ntF_sub hv h4 hm (q:=q.1) (u:=q.2) e;exact ih q.1 (r+1) q2 (by rw [h3];exact hP o _ hm (by omega) (by omega) h)
theorem naE_ind (P:List Int->Prop) {o:List Int} {r:Nat} (hv:pvB s gi rs=true) (h4:most<=4) (hP:∀ o t,mvd o s=true->1<=t->t<=most->P o->P (nbL s gi rs o (t:Nat))) (hm:mvd o s=true) (h:P o):P (naE s gi rs most o r).1/\mvd (naE s gi rs most o r).1 s=true:=
 naI_ind P hv h4 hP _ _ _ hm h
end
def naL (s:Int) (gi:List Int) (rs:List RuleM) (m:List Int) (most:Int):List Int:=if (pvB s gi rs&&mvd m s&&inr most 1 4)=true then (naE s gi rs most.toNat m 0).1 else []
def naR (s:Int) (gi:List Int) (rs:List RuleM) (m:List Int) (most:Int):Int:=if (pvB s gi rs&&mvd m s&&inr most 1 4)=true then (naE s gi rs most.toNat m 0).2 else -1
set_option maxHeartbeats 4000000 in
theorem specNarrowAllX (s:Int) (Ag:Option Addr) (n cg Bg:Nat) (gi:List Int) (Ar:Option Addr) (nr cr Br:Nat) (rs:List RuleM) (A:Option Addr) (c nm B:Nat) (m:List Int) (most:Int) (w:World) (hp:PGs w s Ag n cg Bg gi Ar nr cr Br rs) (h:Rd w B A nm m) (hBm:B<=w.heap.size) (hm:nm<=1099511627776) (hsb: -9223372036854775808<=s/\s<=9223372036854775807):
 Calls Tryz.prog 75 #[.agg #[.int .i64 s,.slice Ag n cg,.slice Ar nr cr],.slice A nm c,.int .i64 most] w fun e w'=>∃ A' n' c',e=.returned (.tuple #[.slice A' n' c',.int .i64 (naR s gi rs m most)])/\Ow w' w.heap.size A' n' c' (naL s gi rs m most)/\Below w.heap.size w w':=by
 have hlen:=Lib.hid h.1;have hx0:=pbox_new w s Ag n cg Ar nr cr 26;have hb0:Below w.heap.size w (w.alloc (.cells #[.int .i64 s,.slice Ag n cg,.slice Ar nr cr] 26)):=(Below.refl _ _).alloc (Nat.le_refl _) _
 have hs0:w.heap.size<(w.alloc (.cells #[.int .i64 s,.slice Ag n cg,.slice Ar nr cr] 26)).heap.size:=by simp
 obtain ⟨z0,z1,z2⟩:=id hx0;have HP:=Lib.hid (fun w' (hb:Below w.heap.size w w')=>specPuzzleValid s Ag n cg Bg gi Ar nr cr Br rs w' (hp.below hb).g (hp.below hb).gB hp.gm (hp.below hb).r (hp.below hb).rB hp.rm);have HV:=Lib.hid (fun w' (hb:Below w.heap.size w w')=>specMasksValid A c nm B m s w' (h.below (hb.mono hBm)) (Nat.le_trans hBm hb.size) hm hsb);have HCp:=Lib.hid (fun w' (hb:Below w.heap.size w w')=>specL6Copy A nm c B m w' (h.below (hb.mono hBm)) (Nat.le_trans hBm hb.size) hm);cases hv:pvB s gi rs
 ·have HL:=Lib.hid (show naL s gi rs m most=[] by simp [naL,hv]);have HR:=Lib.hid (show naR s gi rs m most= -1 by simp [naR,hv])
  go_enter Tryz.func75,Tryz.ntmps75
  go_wp2_with (go_at_call 25;refine (HP.out _ hb0).mono ?_;rintro e w1 ⟨rfl,hb1⟩;rw [hv];have h01:=step hb0 hb1)
  go_ret2
  rw [HL.out,HR.out];exact ⟨_,_,_,rfl,Ow.made0 _ _ h01.size,h01.alloc h01.size _⟩
 ·cases hmv:mvd m s
  ·have HL:=Lib.hid (show naL s gi rs m most=[] by simp [naL,hmv]);have HR:=Lib.hid (show naR s gi rs m most= -1 by simp [naR,hmv])
   go_enter Tryz.func75,Tryz.ntmps75
   go_wp2_with (first
    |(go_at_call 25;refine (HP.out _ hb0).mono ?_;rintro e w1 ⟨rfl,hb1⟩;rw [hv];have h01:=step hb0 hb1;obtain ⟨c0,c1,c2⟩:=hx0.below hs0 hb1)
    |(go_at_call 127;refine (HV.out _ h01).mono ?_;rintro e w2 ⟨rfl,hb2⟩;rw [hmv];have h02:=step h01 hb2))
   go_ret2
   rw [HL.out,HR.out];exact ⟨_,_,_,rfl,Ow.made0 _ _ h02.size,h02.alloc h02.size _⟩
  ·cases hin:inr most 1 4
   ·have HL:=Lib.hid (show naL s gi rs m most=[] by simp [naL,hin]);have HR:=Lib.hid (show naR s gi rs m most= -1 by simp [naR,hin])
    go_enter Tryz.func75,Tryz.ntmps75
    go_wp2_with (first
     |(go_at_call 25;refine (HP.out _ hb0).mono ?_;rintro e w1 ⟨rfl,hb1⟩;rw [hv];have h01:=step hb0 hb1;obtain ⟨c0,c1,c2⟩:=hx0.below hs0 hb1)
     |(go_at_call 127;refine (HV.out _ h01).mono ?_;rintro e w2 ⟨rfl,hb2⟩;rw [hmv];have h02:=step h01 hb2)
     |(go_at_call 62;refine (l1In_any _ _ _ _).mono ?_;rintro e wq ⟨rfl,rfl⟩;rw [hin]))
    go_ret2
    rw [HL.out,HR.out];exact ⟨_,_,_,rfl,Ow.made0 _ _ h02.size,h02.alloc h02.size _⟩
   ·obtain ⟨h1,h4⟩:=inr_t hin;obtain ⟨M,rfl⟩:=Int.eq_ofNat_of_zero_le (show 0<=most by omega);have hl16:nm<=16:=(by have:=(mvd_at hmv).2.2.1;rw [hlen.out] at this;exact this);have HL:=Lib.hid (show naL s gi rs m (M:Nat)=(naE s gi rs M m 0).1 by simp [naL,hv,hmv,hin]);have HR:=Lib.hid (show naR s gi rs m (M:Nat)=(naE s gi rs M m 0).2 by simp [naR,hv,hmv,hin]);have Hv:=Lib.hid hv;have Hmv:=Lib.hid hmv;clear hmv
    go_enter Tryz.func75,Tryz.ntmps75
    go_wp2_with (first
     |(go_at_call 25;refine (HP.out _ hb0).mono ?_;rintro e w1 ⟨rfl,hb1⟩;rw [hv];have h01:=step hb0 hb1;have hx1:=hx0.below hs0 hb1;have hs1:=Nat.lt_of_lt_of_le hs0 hb1.size;obtain ⟨c0,c1,c2⟩:=id hx1)
     |(go_at_call 127;refine (HV.out _ h01).mono ?_;rintro e w2 ⟨rfl,hb2⟩;rw [Hmv.out];have h02:=step h01 hb2;have hx2:=hx1.below hs1 hb2;have hs2:=Nat.lt_of_lt_of_le hs1 hb2.size)
     |(go_at_call 62;refine (l1In_any _ _ _ _).mono ?_;rintro e wq ⟨rfl,rfl⟩;rw [hin])
     |(go_at_call 128;refine (HCp.out _ h02).mono ?_;rintro e w3 ⟨Ac,cc,rfl,ho3,hb3⟩))
    have h03:=step h02 hb3;have hx3:=hx2.below hs2 hb3;have ho3':=ho3.mono h02.size;clear z0 z1 z2 c0 c1 c2 hx0 hx1 hx2 ho3 hv hin;have hM1:1<=M:=(by omega);have hM4:M<=4:=(by omega);clear h1 h4
    go_loopw [8,9,10] (fun sl rd tv wr=>∃ (A':Option Addr) (c':Nat) (o:List Int) (r t:Nat),sl=.slice A' nm c'/\rd=.int .i64 r/\tv=.int .i64 t/\1<=t/\t<=M+1/\Ow wr w.heap.size A' nm c' o/\Hid (mvd o s=true/\naE s gi rs M o r=naE s gi rs M m 0/\(∀ v,1<=v->v<t->nbL s gi rs o v=o)/\r+sumTo o o.length<=480)/\PBox wr w.heap.size s Ag n cg Ar nr cr/\Below w.heap.size w wr/\w.heap.size<wr.heap.size) (fun sl _ tv wr=>sumAt wr sl nm*8+(5-intOf tv).toNat)
    case atStart=>exact ⟨Ac,cc,m,0,1,rfl,rfl,rfl,by omega,by omega,ho3',Lib.hid ⟨Hmv.out,rfl,fun v h1 h2=>absurd h2 (by omega),by have:=sum_480 Hmv.out;omega⟩,hx3,h03,by have:=hb3.size;omega⟩
    case round=>
     clear ho3' h03 hx3 hb3;obtain ⟨A',c',o,r,t,rfl,rfl,rfl,t1,t5,ho,hmo,hx,hb,hsw⟩:=hrel;obtain ⟨c0,c1,c2⟩:=id hx
     by_cases hlt:t<=M
     ·have hltI:(t:Int)<=(M:Int):=(by omega);have HNB:=Lib.hid (specNarrowBy s Ag n cg Bg gi Ar nr cr Br rs A' c' nm wr.heap.size o t wr (hp.below hb) ho.rd (Nat.le_refl _) hm hsb);have hsub:=nb_sub (t:=(t:Int)) Hv.out hmo.out.1 (by omega) (by omega);have hol:=ho.len;have Hsub:=Lib.hid hsub;have hnl:(nbL s gi rs o t).length=nm:=(by rw [hsub.1,hol]);obtain ⟨q,hq⟩:∃ q,q=nbL s gi rs o t:=⟨_,rfl⟩;rw [<- hq] at HNB hnl Hsub;have Hq:=Lib.hid hq;have Hnl:=Lib.hid hnl;have hS0:=sumAt_ow ho nm (Nat.le_refl _);have HS0:=Lib.hid hS0;have hr480:=hmo.out.2.2.2
      have Hhol:=Lib.hid hol;clear hq hsub hnl hS0 hol
      go_wp2_with fail
      refine HNB.out.mono ?_;rintro e w4 ⟨A5,c5,rfl,ho5,hb5⟩;rw [Hnl.out] at ho5 ⊢;have ho4:=ho.below hb5;have hx4:=hx.below hsw hb5;have hs4:=Nat.lt_of_lt_of_le hsw hb5.size;have h04:=step hb hb5;have HSm:=Lib.hid (specL8Same A5 A' c5 c' nm nm w4.heap.size w4.heap.size q o w4 ho5.rd ho4.rd hm)
      by_cases hqo:q=o
      ·have hsm:same q o=true:=(by rw [hqo];exact same_refl o);have Hqo:=Lib.hid hqo;clear hqo hr480
       go_wp2_with (go_at_call 98;refine HSm.out.mono ?_;rintro e w6 ⟨rfl,hb6⟩;rw [hsm])
       have ho6:=ho4.below hb6;have hS6:=sumAt_ow ho6 nm (Nat.le_refl _)
       go_roundw
       case rel=>exact ⟨A',c',o,r,t+1,rfl,rfl,by go_num,by omega,by omega,ho6,Lib.hid ⟨hmo.out.1,hmo.out.2.1,fun v h1 h2=>by
        by_cases e:v=t
        ·subst e;rw [<- Hq.out];exact Hqo.out
        ·exact hmo.out.2.2.1 v h1 (by omega),hmo.out.2.2.2⟩,hx4.below hs4 hb6,step h04 hb6,Nat.lt_of_lt_of_le hs4 hb6.size⟩
       case measure=>rw [hS6,HS0.out];simp [intOf];omega
      ·have hsm:same q o=false:=(by simp [same,hqo]);have Hlt:=Lib.hid (sum_lt Hsub.out hqo);have Hnt:=Lib.hid (show ntF s gi rs o M 1=some (q,t) from ntF_at hmo.out.2.2.1 (by omega) (by omega) Hq.out hqo);clear hqo
       go_wp2_with (go_at_call 98;refine HSm.out.mono ?_;rintro e w6 ⟨rfl,hb6⟩;rw [hsm])
       have ho6:=(ho5.mono hb.size).below hb6;have hS6:=sumAt_ow ho6 nm (Nat.le_refl _);have hl2:=Hlt.out;have hsq:sumTo q q.length<sumTo o o.length:=(by rw [Hsub.out.1];exact hl2);rw [Hhol.out] at hl2
       go_roundw
       case rel=>exact ⟨A5,c5,q,r+1,1,rfl,by go_num,rfl,by omega,by omega,ho6,Lib.hid ⟨Hsub.out.mvd_ hmo.out.1,(naE_some Hv.out hM4 hmo.out.1 Hnt.out).symm.trans hmo.out.2.1,fun v h1 h2=>absurd h2 (by omega),by omega⟩,hx4.below hs4 hb6,step h04 hb6,Nat.lt_of_lt_of_le hs4 hb6.size⟩
       case measure=>rw [hS6,HS0.out];simp [intOf];omega
     ·have HE:=Lib.hid (show naE s gi rs M m 0=(o,r) by
       rw [<- hmo.out.2.1]
       exact naE_none (ntF_of (fun v h1 h2=>hmo.out.2.2.1 v h1 (by omega))))
      have hltI:¬ (t:Int)<=(M:Int):=(by omega)
      go_wp2
      go_ret2
      rw [HL.out,HR.out,HE.out];exact ⟨A',_,c',rfl,ho,hb⟩
end Go.Proofs.YtkeoflnmbcdmfaaGreatDoor
