import Derived.Test.YtlnmioijgclndaaGreatDoorL43
import Derived.Deep.RegionLaw
import Derived.Test.YtlnmioijgclndaaGreatDoorSearch
import Derived.Test.YtlnmioijgclndaaGreatDoorAFresh
namespace Go.Proofs.YtlnmioijgclndaaGreatDoor
section
variable {P : Program} {md : Region.Mode} {ops : Array Oper} {Q : Exit → Act → World → Prop} {Inv : Array Bool → Act → World → Prop}
def unl (l:Array Bool):Nat:=l.toList.countP (fun b=>b==false)
theorem unl_set {l:Array Bool} {i:Nat} (h:l.getD i true=false):unl (l.setIfInBounds i true)<unl l:=by
 have hi:i<l.size:=by
  rcases Nat.lt_or_ge i l.size with h'|h'
  ·exact h'
  ·simp [Array.getElem?_eq_none h'] at h
 have he:l.toList[i]'(by simpa using hi)=false:=by simpa [hi] using h
 unfold unl;rw [Array.toList_setIfInBounds,List.countP_set (by simpa using hi),he];have:0<l.toList.countP (fun b=>b==false):=List.countP_pos_iff.2 ⟨false,by rw [<- he];exact List.getElem_mem _,rfl⟩
 show List.countP (fun b=>b==false) l.toList-1+0<List.countP (fun b=>b==false) l.toList
 omega
theorem unl_zero {l:Array Bool} (h:unl l=0) (i:Nat):l.getD i true=true:=by
 unfold unl at h;rw [List.countP_eq_zero] at h
 rcases Nat.lt_or_ge i l.size with h'|h'
 ·have:=h (l.toList[i]'(by simpa using h')) (List.getElem_mem _)
  simpa [h'] using this
 ·simp [Array.getElem?_eq_none h']
theorem wpAny_inv (hback:∀ (i:Nat) (o:Oper),ops[i]? =some o->∀ e∈o.after,e.on<i) (hsz:∀ l a w,Inv l a w->l.size=ops.size)
 (hstep:∀ l a w (i:Nat) (o:Oper),Inv l a w->ops[i]? =some o->l.getD i true=false->(∀ e∈o.after,Region.binds md e=true->l.getD e.on false=true)->wpOp P ops Q i (Inv (l.setIfInBounds i true)) a w)
 (hdone:∀ l a w,Inv l a w->(∀ i,i<ops.size->l.getD i false=true)->Q .normal a w):
 ∀ fuel l a w,unl l<=fuel->Inv l a w->wpAny P md ops Q fuel l a w:=by
 have fin:∀ l a w,Inv l a w->Region.ready md ops l=[]->Q .normal a w:=by
  intro l a w hI hr;refine hdone l a w hI ?_;intro i
  induction i using Nat.strongRecOn with
  |ind i ih=>
   intro hi
   cases hb:l.getD i false with
   |true=>rfl
   |false=>
    exfalso
    have hil:i<l.size:=(by rw [hsz l a w hI];exact hi);have ho:ops[i]? =some ops[i]:=Array.getElem?_eq_getElem hi;have:i∈Region.ready md ops l:=mem_ready.2 ⟨by simpa [hil] using hb,ops[i],ho,fun e he _=>ih e.on (hback i _ ho e he) (Nat.lt_trans (hback i _ ho e he) hi)⟩;rw [hr] at this;cases this
 intro fuel
 induction fuel with
 |zero=>
  intro l a w hu hI
  have hr:Region.ready md ops l=[]:=by
   cases e:Region.ready md ops l with
   |nil=>rfl
   |cons j r=>
    have hj:j∈Region.ready md ops l:=(by rw [e];exact List.mem_cons_self ..);have h1:=(mem_ready.1 hj).1;rw [unl_zero (by omega) j] at h1;cases h1
  exact ⟨hr,fin l a w hI hr⟩
 |succ fuel ih=>
  intro l a w hu hI;refine ⟨fin l a w hI,fun i hi=>?_⟩;obtain ⟨h1,o,ho,hall⟩:=mem_ready.1 hi;refine wpOp_mono (fun a' w' h=>ih _ a' w' ?_ h) (hstep l a w i o hI ho h1 hall);have:=unl_set h1;omega
theorem wp_region_inv {id:Nat} {a:Act} {w:World} (hm:P.follows .mixedOrders=true) (hback:∀ (i:Nat) (o:Oper),ops[i]? =some o->∀ e∈o.after,e.on<i) (hsz:∀ l a w,Inv l a w->l.size=ops.size)
 (hstep:∀ l a w (i:Nat) (o:Oper),Inv l a w->ops[i]? =some o->l.getD i true=false->(∀ e∈o.after,Region.binds .any e=true->l.getD e.on false=true)->wpOp P ops Q i (Inv (l.setIfInBounds i true)) a w)
 (hdone:∀ l a w,Inv l a w->(∀ i,i<ops.size->l.getD i false=true)->Q .normal a w)
 (h0:Inv (Array.replicate ops.size false) a { w with drawn:=w.drawn+1 }):(Code.region id ops true).wp P Q a w:=
 wp_region_any hm (wpAny_inv hback hsz hstep hdone _ _ _ _ (by
  unfold unl
  exact Nat.le_trans (List.countP_le_length) (by simp)) h0)
end
theorem frame_of {a a0:Array Value} (ts:List Nat) (hs:a.size=a0.size) (h:∀ t,t∉ts->a[t]? =a0[t]?):a=ts.foldl (fun tm t=>tm.setIfInBounds t (a.getD t undef)) a0:=by
 have key:∀ (ts:List Nat) (b:Array Value),b.size=a.size->∀ t,(ts.foldl (fun tm t=>tm.setIfInBounds t (a.getD t undef)) b)[t]? =if t∈ts then a[t]? else b[t]? :=by
  intro ts
  induction ts with
  |nil=>intro b _ t;simp
  |cons u ts ih=>
   intro b hb t;rw [List.foldl_cons,ih _ (by simpa using hb)]
   by_cases e:t∈ts
   ·simp [e]
   ·simp only [e,if_false,List.mem_cons,or_false]
    by_cases hu:t=u
    ·subst hu;rw [if_pos rfl]
     rcases Nat.lt_or_ge t a.size with h'|h'
     ·simp [Array.getElem?_setIfInBounds_self_of_lt (hb▸h'),h']
     ·rw [Array.getElem?_eq_none h',Array.getElem?_eq_none (by simp;omega)]
    ·rw [if_neg hu,Array.getElem?_setIfInBounds_ne (fun e'=>hu e'.symm)]
 apply Array.ext_getElem?
 intro t;rw [key ts a0 hs.symm t]
 split
 ·rfl
 ·exact h t (by assumption)
end Go.Proofs.YtlnmioijgclndaaGreatDoor
namespace Go.Proofs.YtlnmioijgclndaaGreatDoor
open Go.ChangeShapes Go.WideShapes Go.ChangeAt Go.RowKit
def Off (d:Nat->Nat) (m:Nat) (a a0:Act):Prop:=a.tmps.size=a0.tmps.size/\a.defers=a0.defers/\∀ t,(∀ j,j<m->d j≠t)->a.tmps[t]? =a0.tmps[t]?
theorem Off.eval {d:Nat->Nat} {m:Nat} {a a0:Act} (h:Off d m a a0) {t:Nat} (ht:∀ j,j<m->d j≠t):a.eval (.tmp t)=a0.eval (.tmp t):=by
 simp [Act.eval,h.2.2 t ht]
theorem wp_region_made {P:Program} {ops:Array Oper} {Q:Exit->Act->World->Prop} {id:Nat} {a0:Act} {W:World} (m:Nat) (d:Nat->Nat) (G:Nat->Value->World->Prop)
 (hm:P.follows .mixedOrders=true) (hlen:ops.size=m+1) (hback:∀ (i:Nat) (o:Oper),ops[i]? =some o->∀ e∈o.after,e.on<i)
 (hd:∀ i o,i<m->ops[i]? =some o->o.dst=some (d i)/\o.guard=none) (hinj:∀ i j,i<m->j<m->d i=d j->i=j) (hlt:∀ i,i<m->d i<a0.tmps.size)
 (hl:∀ o,ops[m]? =some o->o.dst=none/\o.guard=none/\∀ j,j<m->∃ e∈o.after,e.on=j/\Region.binds .any e=true)
 (hG:∀ j v w w',Below w.heap.size w w'->G j v w->G j v w')
 (hstep:∀ i o a w,i<m->ops[i]? =some o->Below W.heap.size W w->Off d m a a0->(∀ e∈o.after,Region.binds .any e=true->G e.on (a.eval (.tmp (d e.on))) w)->∃ v w',(execOp a.eval o).run P w=.ok (.value v) w'/\Below w.heap.size w w'/\G i v w')
 (hlast:∀ o a w,ops[m]? =some o->Below W.heap.size W w->Off d m a a0->(∀ j,j<m->G j (a.eval (.tmp (d j))) w)->∃ w',(execOp a.eval o).run P w=.ok .skip w'/\Q .normal a w'):
 (Code.region id ops true).wp P Q a0 W:=by
 refine wp_region_inv (Inv:=fun l a w=>l.size=ops.size/\((l.getD m false=false/\Below W.heap.size W w/\Off d m a a0/\∀ j,j<m->l.getD j false=true->G j (a.eval (.tmp (d j))) w)\/((∀ j,j<ops.size->l.getD j false=true)/\Q .normal a w))) hm hback (fun l a w h=>h.1) ?step ?done ?h0
 case done=>
  rintro l a w ⟨hs,h⟩ hall
  rcases h with ⟨h1,_⟩|⟨_,h⟩
  ·rw [hall m (by omega)] at h1;cases h1
  ·exact h
 case h0=>
  refine ⟨by simp,.inl ⟨by rw [Array.getD_eq_getD_getElem?,Array.getElem?_replicate];split<;>rfl,(Below.refl W.heap.size W).drew,⟨rfl,rfl,fun _ _=>rfl⟩,fun j hj hlj=>?_⟩⟩
  simp at hlj
  have:j<ops.size:=by omega
  simp [this] at hlj
 case step=>
  rintro l a w i o ⟨hs,h⟩ ho hli hall;have hi:i<ops.size:=(Array.getElem?_eq_some_iff.1 ho).1
  have hil:i<l.size:=by omega
  rcases h with ⟨h1,hb,hoff,hg⟩|⟨h,_⟩
  ·refine wpOp_step ho (fun K hK=>?_);have hsz:(l.setIfInBounds i true).size=ops.size:=(by simpa using hs)
   by_cases him:i=m
   ·subst him;obtain ⟨q1,q2,q3⟩:=hl o ho
    have hallj:∀ j,j<i->l.getD j false=true:=fun j hj=>by
     obtain ⟨e,he,rfl,hbd⟩:=q3 j hj;exact hall e he hbd
    obtain ⟨w',hrun,hq⟩:=hlast o a w ho hb hoff (fun j hj=>hg j hj (hallj j hj));rw [if_pos (by simp [Region.wanted,q2])];unfold Oper.wp;rw [hrun];have hput:a.put o.dst undef=a:=(by rw [q1];rfl);refine hK _ _ ⟨hsz,.inr ⟨fun j hj=>?_,?_⟩⟩
    ·by_cases e:j=i
     ·subst e;simp [hil]
     ·have:=hallj j (by omega);have hjl:j<l.size:=(by omega);have hset:(l.setIfInBounds i true).getD j false=l.getD j false:=(by simp [Array.getElem?_setIfInBounds_ne (fun e'=>e (Eq.symm e'))]);rw [hset];exact this
    ·first|exact hq|(rw [hput];exact hq)
   ·have him':i<m:=(by omega);obtain ⟨q1,q2⟩:=hd i o him' ho
    have hpre:∀ e∈o.after,Region.binds .any e=true->G e.on (a.eval (.tmp (d e.on))) w:=fun e he hbd=>hg e.on (Nat.lt_trans (hback i o ho e he) him') (hall e he hbd)
    obtain ⟨v,w',hrun,hb',hgi⟩:=hstep i o a w him' ho hb hoff hpre;rw [if_pos (by simp [Region.wanted,q2])];unfold Oper.wp;rw [hrun];have hdlt:d i<a.tmps.size:=(by rw [hoff.1];exact hlt i him')
    have hset:∀ j,(l.setIfInBounds i true).getD j false=if j=i then true else l.getD j false:=fun j=>by
     by_cases e:j=i
     ·subst e;simp [hil]
     ·rw [if_neg e];simp [Array.getElem?_setIfInBounds_ne (fun e'=>e (Eq.symm e'))]
    refine hK _ _ ⟨hsz,.inl ⟨by rw [hset,if_neg (fun e=>him e.symm)];exact h1,step hb hb',?_,fun j hj hlj=>?_⟩⟩
    ·rw [q1];refine ⟨by rw [size_put];exact hoff.1,hoff.2.1,fun t ht=>?_⟩;rw [<- hoff.2.2 t ht]
     simp [Act.put,Array.getElem?_setIfInBounds_ne (ht i him')]
    ·rw [q1]
     by_cases e:j=i
     ·subst e;rw [eval_put_same hdlt];exact hgi
     ·rw [eval_put_ne (fun e'=>e (hinj _ _ hj him' e'.symm))];rw [hset,if_neg e] at hlj;exact hG _ _ _ _ hb' (hg j hj hlj)
  ·have:=h i hi
   simp [hil] at hli this
   rw [this] at hli;cases hli
def chkOps (ops:Array Oper) (ds:List Nat):Bool:=
 ops.size==ds.length+1&&((List.range ops.size).all fun i=>match ops[i]? with
  |some o=>o.after.all fun e=>decide (e.on<i)
  |none=>false)&&((List.range ds.length).all fun i=>match ops[i]? with
  |some o=>decide (o.dst=some (ds.getD i 0))&&o.guard.isNone
  |none=>false)&&(match ops[ds.length]? with
  |some o=>o.dst.isNone&&o.guard.isNone&&(List.range ds.length).all fun j=>o.after.any fun e=>e.on==j&&Region.binds .any e
  |none=>false)&&decide ds.Nodup
theorem wp_region_ds {P:Program} {ops:Array Oper} {Q:Exit->Act->World->Prop} {id:Nat} {a0:Act} {W:World} (ds:List Nat) (G:Nat->Value->World->Prop)
 (hm:P.follows .mixedOrders=true) (hc:chkOps ops ds=true) (hlt:∀ t∈ds,t<a0.tmps.size)
 (hG:∀ j v w w',Below w.heap.size w w'->G j v w->G j v w')
 (hstep:∀ (i:Nat) (o:Oper) (a:Act) (w:World),i<ds.length->ops[i]? =some o->Below W.heap.size W w->(∀ t,t∉ds->a.eval (.tmp t)=a0.eval (.tmp t))->(∀ e∈o.after,Region.binds .any e=true->G e.on (a.eval (.tmp (ds.getD e.on 0))) w)->∃ v w',(execOp a.eval o).run P w=.ok (.value v) w'/\Below w.heap.size w w'/\G i v w')
 (hlast:∀ (o:Oper) (a:Act) (w:World),ops[ds.length]? =some o->Below W.heap.size W w->a.defers=a0.defers->a.tmps=ds.foldl (fun tm t=>tm.setIfInBounds t (a.tmps.getD t undef)) a0.tmps->(∀ t,t∉ds->a.eval (.tmp t)=a0.eval (.tmp t))->(∀ j,j<ds.length->G j (a.eval (.tmp (ds.getD j 0))) w)->∃ w',(execOp a.eval o).run P w=.ok .skip w'/\Q .normal a w'):
 (Code.region id ops true).wp P Q a0 W:=by
 simp only [chkOps,Bool.and_eq_true,beq_iff_eq,List.all_eq_true,List.mem_range,decide_eq_true_eq] at hc;obtain ⟨⟨⟨⟨c1,c2⟩,c3⟩,c4⟩,c5⟩:=hc
 have hout:∀ t,t∉ds->∀ j,j<ds.length->ds.getD j 0≠t:=fun t ht j hj e=>ht (by
  rw [<- e,List.getD_eq_getElem?_getD,List.getElem?_eq_getElem hj];exact List.getElem_mem _)
 have hmem:∀ j,j<ds.length->ds.getD j 0∈ds:=fun j hj=>by
  rw [List.getD_eq_getElem?_getD,List.getElem?_eq_getElem hj];exact List.getElem_mem _
 refine wp_region_made ds.length (fun j=>ds.getD j 0) G hm c1 ?back ?hd ?inj (fun i hi=>hlt _ (hmem i hi)) ?hl hG ?step ?last
 case back=>
  intro i o ho e he;have hi:i<ops.size:=(Array.getElem?_eq_some_iff.1 ho).1;have:=c2 i hi;rw [ho] at this;simp only [Array.all_eq_true_iff_forall_mem,decide_eq_true_eq] at this;exact this e he
 case hd=>
  intro i o hi ho;have:=c3 i hi;rw [ho] at this;simp only [Bool.and_eq_true,decide_eq_true_eq,Option.isNone_iff_eq_none] at this;exact this
 case inj=>
  intro i j hi hj e;simp only [List.getD_eq_getElem?_getD,List.getElem?_eq_getElem hi,List.getElem?_eq_getElem hj,Option.getD_some] at e;exact (List.getElem_inj c5).1 e
 case hl=>
  intro o ho;rw [ho] at c4;simp only [Bool.and_eq_true,Option.isNone_iff_eq_none,List.all_eq_true,List.mem_range] at c4;refine ⟨c4.1.1,c4.1.2,fun j hj=>?_⟩;obtain ⟨e,he,h⟩:=Array.any_eq_true'.1 (c4.2 j hj);rw [Bool.and_eq_true,beq_iff_eq] at h;exact ⟨e,he,h.1,h.2⟩
 case step=>
  intro i o a w hi ho hb hoff hpre;exact hstep i o a w hi ho hb (fun t ht=>hoff.eval (hout t ht)) hpre
 case last=>
  intro o a w ho hb hoff hpre;refine hlast o a w ho hb hoff.2.1 (frame_of ds hoff.1 (fun t ht=>hoff.2.2 t (hout t ht))) (fun t ht=>hoff.eval (hout t ht)) hpre
set_option maxRecDepth 8000
theorem OwR.far {w w':World} {lo n c:Nat} {A:Option Addr} {rs:List RuleM} {row:Option Nat} (h:OwR w lo (.slice A n c) rs n) (hg:w.grownBy w' row) (hr:∀ g,row=some g->g<lo):OwR w' lo (.slice A n c) rs n:=by
 obtain ⟨vs,hown,hin⟩:=h
 refine ⟨vs,World.ownsRow.kept hown hg (by
  cases e:(Value.slice A n c).ownBlock with
  |none=>exact .inl rfl
  |some g=>exact .inr (fun he=>by have h1:=(World.ownsRow.lt hown g e).1;have h2:=hr g he.symm;omega)),fun i hi=>?_⟩
 obtain ⟨A',c',e0,e1,e2,e3,e4,e5⟩:=hin i hi;exact ⟨A',c',e0,e1,e2,e3.far hg (fun g hgg e=>by have h1:=e3.own_lo g hgg;have h2:=hr g e;omega),e4,e5⟩
theorem lt_set5 {a:Nat} {w:World} {p:Addr} {v:Value} (h:a<w.heap.size):a<(w.setCell p v).heap.size:=by rw [World.size_setCell];exact h
theorem grown_row {w:World} {g:Nat} {cs:Array Value}:w.grownBy (w.setRow g cs) (some g):=
 ⟨rfl,rfl,rfl,by simp,fun k hk hne=>by unfold World.setRow;simp only [Array.getElem?_modify];rw [if_neg (fun e=>hne (by rw [e]))]⟩
theorem OwR.mono {w:World} {lo lo' n:Nat} {v:Value} {rs:List RuleM} (h:OwR w lo v rs n) (hl:lo'<=lo):OwR w lo' v rs n:=by
 obtain ⟨vs,hown,hin⟩:=h;refine ⟨vs,World.ownsRow.mono hown hl,fun i hi=>?_⟩;obtain ⟨A',c',e0,e1,e2,e3,e4,e5⟩:=hin i hi;exact ⟨A',c',e0,e1,e2,e3.mono hl,e4,e5⟩
set_option maxHeartbeats 1000000 in
theorem specOwnPuzzle (s:Int) (Ag:Option Addr) (n cg Bg:Nat) (gi:List Int) (Ar:Option Addr) (nr cr Br:Nat) (rs:List RuleM) (w:World) (hg:Rd w Bg Ag n gi) (hBg:Bg<=w.heap.size) (hm:n<=1099511627776) (hr:RdRs w Br Ar nr rs) (hBr:Br<=w.heap.size) (hmr:nr<=1099511627775):
 Calls Tryz.prog 139 #[.agg #[.int .i64 s,.slice Ag n cg,.slice Ar nr cr]] w fun e w'=>∃ A1 c1 A2 c2,e=.returned (.agg #[.int .i64 s,.slice A1 n c1,.slice A2 nr c2])/\Ow w' w.heap.size A1 n c1 gi/\OwR w' w.heap.size (.slice A2 nr c2) rs nr/\Below w.heap.size w w':=by
 have Hone:=Lib.hid puz_one;have Hi:=Lib.hid puz_info;have hx0:=pbox_new w s Ag n cg Ar nr cr 26;have hb0:Below w.heap.size w (w.alloc (.cells #[.int .i64 s,.slice Ag n cg,.slice Ar nr cr] 26)):=(Below.refl _ _).alloc (Nat.le_refl _) _
 have hs0:w.heap.size<(w.alloc (.cells #[.int .i64 s,.slice Ag n cg,.slice Ar nr cr] 26)).heap.size:=by simp
 obtain ⟨V,hV⟩:∃ V,V=((w.alloc (.cells #[.int .i64 s,.slice Ag n cg,.slice Ar nr cr] 26)).alloc (.cells #[.int .i64 0,.slice none 0 0,.slice none 0 0] 26)).alloc (.cells #[.int .i64 s,.slice Ag n cg,.slice Ar nr cr] 26):=⟨_,rfl⟩
 have hbV:Below w.heap.size w V:=by rw [hV];exact (hb0.alloc hb0.size _).alloc (by simp;omega) _
 have hsV:V.heap.size=w.heap.size+1+1+1:=by rw [hV];simp
 have hv2:V.heap[w.heap.size+1+1]? =some (.cells #[.int .i64 s,.slice Ag n cg,.slice Ar nr cr] 26):=by
  have:=heap_alloc2_new (w.alloc (.cells #[.int .i64 s,.slice Ag n cg,.slice Ar nr cr] 26)) (.cells #[.int .i64 0,.slice none 0 0,.slice none 0 0] 26) (.cells #[.int .i64 s,.slice Ag n cg,.slice Ar nr cr] 26);rw [World.size_alloc] at this;rw [hV];exact this
 have hv1:V.heap[w.heap.size+1]? =some (.cells #[.int .i64 0,.slice none 0 0,.slice none 0 0] 26):=by
  have:=heap_alloc2_old (w.alloc (.cells #[.int .i64 s,.slice Ag n cg,.slice Ar nr cr] 26)) (.cells #[.int .i64 0,.slice none 0 0,.slice none 0 0] 26) (.cells #[.int .i64 s,.slice Ag n cg,.slice Ar nr cr] 26);rw [World.size_alloc] at this;rw [hV];exact this
 have hv0:V.cell? ⟨w.heap.size,2,none⟩=some (.slice Ar nr cr):=by
  rw [hV];exact (hx0.below hs0 (((Below.refl _ _).alloc (Nat.le_refl _) _).alloc (by simp) _)).2.2
 have HO:Hid (Ow (V.alloc (.cells #[] 3)) (w.heap.size+1+1+1) (some ⟨w.heap.size+1+1+1,0,none⟩) 0 0 []):=Lib.hid (by
  have:=Ow.made0 V (w.heap.size+1+1+1) (by omega);rw [hsV] at this
  exact this)
 have hbO:Below V.heap.size V (V.alloc (.cells #[] 3)):=(Below.refl _ _).alloc (Nat.le_refl _) _
 have hwV:w.heap.size<=V.heap.size:=by omega
 have HR:=Lib.hid ((hg.below (hbV.mono hBg)).below (hbO.mono (Nat.le_trans hBg hwV)))
 have hsO:w.heap.size+1+1+1<=(V.alloc (.cells #[] 3)).heap.size:=by simp;omega
 have hwV0:w.heap.size<V.heap.size:=by omega
 have hwV1:w.heap.size+1<V.heap.size:=by omega
 have hwV2:w.heap.size+1+1<V.heap.size:=by omega
 have hne12:w.heap.size+1≠w.heap.size+1+1:=by omega
 have hne02:w.heap.size≠w.heap.size+1+1:=by omega
 have hle2:w.heap.size<=w.heap.size+1+1:=by omega
 have HS:=Lib.hid (fun w' (hb:Below w.heap.size w w')=>specOwnRules Ar nr cr Br rs w' (hr.below (hb.mono hBr)) (Nat.le_trans hBr hb.size) hmr);have HV:=Lib.hid hV;clear hV
 go_enter Tryz.func139,Tryz.ntmps139
 go_wp2_with (first
  |(at_builtin;(rw [<- HV.out]);(refine push_new rfl (.tmp 5) (.tmp 7) rfl (w.heap.size+1+1+1) (some ⟨w.heap.size+1+1+1,0,none⟩) Ag n cg Bg gi rfl rfl HO.out HR.out hm hsO ?_);intro A1 c1 w1 ho1 hg1;have hbw1:Below V.heap.size V w1:=hbO.grown hg1 hbO.size (fun k hk=>Nat.le_trans (Nat.le_of_eq hsV) (HO.out.own_lo k hk));have hs1:=Nat.le_trans (Nat.le_of_lt hwV2) hbw1.size;have f1:=(hbw1.block (w.heap.size+1) hwV1).trans hv1;have f2:=(hbw1.block (w.heap.size+1+1) hwV2).trans hv2;have f0:=(hbw1.cell (p:=⟨w.heap.size,2,none⟩) hwV0).trans hv0;have g1:=(heap_setCell_other w1 ⟨w.heap.size+1+1,1,none⟩ (w.heap.size+1) (.slice A1 n c1) hne12).trans f1;have g2:(w1.setCell ⟨w.heap.size+1+1,1,none⟩ (.slice A1 n c1)).heap[w.heap.size+1+1]? =some (.cells #[.int .i64 s,.slice A1 n c1,.slice Ar nr cr] 26):=heap_setCell_same w1 (w.heap.size+1+1) 1 _ _ (.slice A1 n c1) f2;(have fz:=frozen_of_row w1 (w.heap.size+1+1) 1 _ _ f2);have m1:w1.cell? ⟨w.heap.size+1+1,1,none⟩=some (.slice Ag n cg):=cell_of_row _ _ 1 _ _ (0,0) f2;have g0:=(cell_other5 (k:=1) (v:=.slice A1 n c1) hne02).trans f0;have l1:w.heap.size+1<(w1.setCell ⟨w.heap.size+1+1,1,none⟩ (.slice A1 n c1)).heap.size:=lt_set5 (Nat.lt_of_lt_of_le hwV1 hbw1.size);have l2:w.heap.size+1+1<(w1.setCell ⟨w.heap.size+1+1,1,none⟩ (.slice A1 n c1)).heap.size:=lt_set5 (Nat.lt_of_lt_of_le hwV2 hbw1.size);have hB2:=(hbV.trans (hbw1.mono hwV)).setCell hle2 (.slice A1 n c1) (p:=⟨w.heap.size+1+1,1,none⟩))
  |(go_at_call 77;(refine (HS.out _ hB2).mono ?_);rintro e w3 ⟨A2,c2,rfl,ho2,hb3⟩;have h1:=(hb3.block (w.heap.size+1) l1).trans g1;have h2:=(hb3.block (w.heap.size+1+1) l2).trans g2;have fz3:=frozen_of_row w3 (w.heap.size+1+1) 2 _ _ h2;have m5:w3.cell? ⟨w.heap.size+1+1,0,none⟩=some (.int .i64 s):=cell_of_row _ _ 0 _ _ (0,0) h2;have m6:w3.cell? ⟨w.heap.size+1+1,1,none⟩=some (.slice A1 n c1):=cell_of_row _ _ 1 _ _ (0,0) h2;have m7:w3.cell? ⟨w.heap.size+1+1,2,none⟩=some (.slice Ar nr cr):=cell_of_row _ _ 2 _ _ (0,0) h2;have i1:=(heap_setCell_other w3 ⟨w.heap.size+1+1,2,none⟩ (w.heap.size+1) (.slice A2 nr c2) hne12).trans h1;have i2:(w3.setCell ⟨w.heap.size+1+1,2,none⟩ (.slice A2 nr c2)).heap[w.heap.size+1+1]? =some (.cells #[.int .i64 s,.slice A1 n c1,.slice A2 nr c2] 26):=heap_setCell_same w3 (w.heap.size+1+1) 2 _ _ (.slice A2 nr c2) h2;have k5:(w3.setCell ⟨w.heap.size+1+1,2,none⟩ (.slice A2 nr c2)).cell? ⟨w.heap.size+1+1,0,none⟩=some (.int .i64 s):=cell_of_row _ _ 0 _ _ (0,0) i2;have k6:(w3.setCell ⟨w.heap.size+1+1,2,none⟩ (.slice A2 nr c2)).cell? ⟨w.heap.size+1+1,1,none⟩=some (.slice A1 n c1):=cell_of_row _ _ 1 _ _ (0,0) i2;have k7:(w3.setCell ⟨w.heap.size+1+1,2,none⟩ (.slice A2 nr c2)).cell? ⟨w.heap.size+1+1,2,none⟩=some (.slice A2 nr c2):=cell_of_row _ _ 2 _ _ (0,0) i2)
  |(refine wpList_store_row rfl 26 _ _ rfl (w.heap.size+1) #[.int .i64 s,.slice A1 n c1,.slice A2 nr c2] rfl rfl 26 #[.int .i64 0,.slice none 0 0,.slice none 0 0] i1 (Hi.out _ _ _ _ _ _ _) rfl (Hone.out _ _ _ _ _ _ _) ?_))
 have hs1':=hbw1.size;have hs3:=hb3.size;rw [World.size_setCell] at hs3;have hBe:Below w.heap.size w ((w3.setCell ⟨w.heap.size+1+1,2,none⟩ (.slice A2 nr c2)).setRow (w.heap.size+1) #[.int .i64 s,.slice A1 n c1,.slice A2 nr c2]):=setRow_below5 ((step hB2 hb3).setCell (show w.heap.size<=w.heap.size+1+1 by omega) _) (by omega);have ho1':Ow (w1.setCell ⟨w.heap.size+1+1,1,none⟩ (.slice A1 n c1)) (w.heap.size+1+1+1) A1 n c1 gi:=ho1.far (row:=some (w.heap.size+1+1)) grown_set (fun b hb e=>by have:=ho1.own_lo b hb;injection e with e;omega);have ho3:=ho1'.below hb3
 have ho4:Ow (w3.setCell ⟨w.heap.size+1+1,2,none⟩ (.slice A2 nr c2)) (w.heap.size+1+1+1) A1 n c1 gi:=ho3.far (row:=some (w.heap.size+1+1)) grown_set (fun b hb e=>by have:=ho1.own_lo b hb;injection e with e;omega);have ho5:OwR (w3.setCell ⟨w.heap.size+1+1,2,none⟩ (.slice A2 nr c2)) (w1.setCell ⟨w.heap.size+1+1,1,none⟩ (.slice A1 n c1)).heap.size (.slice A2 nr c2) rs nr:=ho2.far (row:=some (w.heap.size+1+1)) grown_set (fun b e=>by injection e with e;omega);refine bodyPost_ret (v:=.agg #[.int .i64 s,.slice A1 n c1,.slice A2 nr c2]) (results_cell_row (by rfl) _ _ (w.heap.size+1) 26 _ (0,0) _ rfl (setRow_heap _ _ _ _ _ _ i1) Tryz.underlying26 rfl (Hi.out _ _ _ _ _ _ _)) rfl ⟨_,_,_,_,rfl,(ho4.row5 (fun b hb=>?_)).mono (by omega),(ho5.far (row:=some (w.heap.size+1)) grown_row (fun b e=>?_)).mono (by rw [World.size_setCell];omega),hBe⟩
 ·have:=ho4.own_lo b hb;omega
 ·injection e with e
  omega
set_option maxRecDepth 8000
theorem ints_info:(Tryz.prog.info? 23).map (fun i=>(i.zero,i.size,i.bytes))=some (some (.slice none 0 0),1,24):=by kernel_rfl
def Rows_ (w:World) (lo P:Nat) (v:Value) (Ls:List (List Int)) (n:Nat):Prop:=
 ∃ A c vs,v=.slice A Ls.length c/\w.ownsRow lo 23 1 v Ls.length vs/\v.ownBlock≠some P/\∀ i,i<Ls.length->∃ A' c',vs[i]? =some (.slice A' n c')/\Ow w lo A' n c' (Ls.getD i [])/\∀ g,(Value.slice A' n c').ownBlock=some g->v.ownBlock≠some g/\g≠P
def Out_ (w:World) (P:Nat) (v:Value):Prop:=w.heap[P]? =some (.cells #[v] 67)
theorem Out_.cell {w:World} {P:Nat} {v:Value} (h:Out_ w P v):w.cell? ⟨P,0,none⟩=some v:=cell_of_row _ _ 0 _ _ (0,0) h
theorem Out_.free {w:World} {P:Nat} {v:Value} (h:Out_ w P v):w.frozen? ⟨P,0,none⟩=false:=frozen_of_row w P 0 _ _ h
theorem Out_.lt {w:World} {P:Nat} {v:Value} (h:Out_ w P v):P<w.heap.size:=(Array.getElem?_eq_some_iff.1 h).1
def Chg5 (w w':World) (P:Nat) (v v':Value):Prop:=w'.os=w.os/\w'.tape=w.tape/\w'.output=w.output/\w.heap.size<=w'.heap.size/\(∀ k,k<w.heap.size->k≠P->v.ownBlock≠some k->w'.heap[k]? =w.heap[k]?)/\∀ g,v'.ownBlock=some g->v.ownBlock=some g\/w.heap.size<=g
theorem Chg5.refl (w:World) (P:Nat) (v:Value):Chg5 w w P v v:=⟨rfl,rfl,rfl,Nat.le_refl _,fun _ _ _ _=>rfl,fun _ h=>.inl h⟩
theorem Chg5.trans {w w1 w2:World} {P:Nat} {v v1 v2:Value} (h:Chg5 w w1 P v v1) (h2:Chg5 w1 w2 P v1 v2):Chg5 w w2 P v v2:=by
 obtain ⟨a1,a2,a3,a4,a5,a6⟩:=h;obtain ⟨b1,b2,b3,b4,b5,b6⟩:=h2;refine ⟨b1.trans a1,b2.trans a2,b3.trans a3,Nat.le_trans a4 b4,fun k hk hP hv=>?_,fun g hg=>?_⟩
 ·refine (b5 k (Nat.lt_of_lt_of_le hk a4) hP (fun e=>?_)).trans (a5 k hk hP hv)
  rcases a6 k e with h|h
  ·exact hv h
  ·omega
 ·rcases b6 g hg with h|h
  ·exact a6 g h
  ·exact .inr (Nat.le_trans a4 h)
theorem Chg5.ofBelow {w w':World} {P:Nat} {v:Value} (h:Below w.heap.size w w'):Chg5 w w' P v v:=⟨h.os,h.tape,h.output,h.size,fun k hk _ _=>h.block k hk,fun _ h=>.inl h⟩
theorem Chg5.cell {w w':World} {P:Nat} {v v':Value} (h:Chg5 w w' P v v') {b i:Nat} (hb:b<w.heap.size) (hP:b≠P) (hv:v.ownBlock≠some b):w'.cell? ⟨b,i,none⟩=w.cell? ⟨b,i,none⟩:=World.cell?_of_block (a:=⟨b,i,none⟩) (h.2.2.2.2.1 b hb hP hv)
theorem Chg5.rd {w w':World} {P:Nat} {v v':Value} {B:Nat} {A:Option Addr} {n:Nat} {xs:List Int} (h:Rd w B A n xs) (hc:Chg5 w w' P v v') (hB:B<=w.heap.size) (hne:∀ b off,A=some ⟨b,off,none⟩->b≠P/\v.ownBlock≠some b):Rd w' B A n xs:=
 ⟨h.1,fun hn=>by
   obtain ⟨b,off,e,hlt,hk⟩:=h.2 hn
   exact ⟨b,off,e,hlt,fun k hkn=>(hc.cell (by omega) (hne b off e).1 (hne b off e).2).trans (hk k hkn)⟩⟩
def tryV (fit:List Int->Bool) (rec:List Int->List (List Int)->List (List Int)) (g:List Int) (p most:Nat):Nat->Nat->List (List Int)->List (List Int)
 |0,_,Ls=>Ls
 |r+1,v,Ls=>if Ls.length<most then tryV fit rec g p most r (v+1) (if fit (g.set p (v:Int))=true then rec (g.set p (v:Int)) Ls else Ls) else Ls
def s5 (fit:List Int->Bool) (s most:Nat):Nat->List Int->Nat->List (List Int)->List (List Int)
 |0,g,_,Ls=>Ls++[g]
 |f+1,g,p,Ls=>if 0<nth g p then s5 fit s most f g (p+1) Ls else tryV fit (fun g' L'=>s5 fit s most f g' (p+1) L') g p most s 1 Ls
set_option maxRecDepth 8000
theorem rows_push {w W0 w3 w4:World} {P lo n:Nat} {v:Value} {Ls:List (List Int)} {vs:List Value} {A1:Option Addr} {c1 g' cap:Nat} {g:List Int} {o:Obj} (hb0:Below w.heap.size w W0) (ho:Out_ w P v) (hown:w.ownsRow lo 23 1 v Ls.length vs)
 (hin:∀ i,i<Ls.length->∃ A' c',vs[i]? =some (.slice A' n c')/\Ow w lo A' n c' (Ls.getD i [])/\∀ g,(Value.slice A' n c').ownBlock=some g->v.ownBlock≠some g/\g≠P) (hvP:v.ownBlock≠some P) (hlow:lo<=w.heap.size)
 (hbA:Below W0.heap.size W0 w3) (ho3:Ow w3 W0.heap.size A1 n c1 g) (h4:w4.ownsRow lo 23 1 (.slice (some ⟨g',0,none⟩) (Ls.length+1) cap) (Ls.length+1) (vs++[.slice A1 n c1])) (hg4:(w3.alloc o).grownBy w4 v.ownBlock) (hl4:v.ownBlock=some g'\/g'=(w3.alloc o).heap.size):
 Out_ (w4.setCell ⟨P,0,none⟩ (.slice (some ⟨g',0,none⟩) (Ls.length+1) cap)) P (.slice (some ⟨g',0,none⟩) (Ls.length+1) cap)/\Rows_ (w4.setCell ⟨P,0,none⟩ (.slice (some ⟨g',0,none⟩) (Ls.length+1) cap)) lo P (.slice (some ⟨g',0,none⟩) (Ls.length+1) cap) (Ls++[g]) n/\Chg5 w (w4.setCell ⟨P,0,none⟩ (.slice (some ⟨g',0,none⟩) (Ls.length+1) cap)) P v (.slice (some ⟨g',0,none⟩) (Ls.length+1) cap):=by
 have hB3:Below w.heap.size w w3:=hb0.trans (hbA.mono hb0.size);have hB4:Below w.heap.size w (w3.alloc o):=hB3.alloc hB3.size o;have hs0:=hb0.size;have hs3:=hbA.size;have hP:=ho.lt;have ho4:Out_ w4 P v:=(hg4.block P (by rw [World.size_alloc];omega) (fun e=>hvP e.symm)).trans ((hB4.block P hP).trans ho);have hg5:w4.grownBy (w4.setCell ⟨P,0,none⟩ (.slice (some ⟨g',0,none⟩) (Ls.length+1) cap)) (some P):=grown_set
 have hg'P:g'≠P:=by
  rcases hl4 with h|h
  ·exact fun e=>hvP (by rw [h,e])
  ·rw [World.size_alloc] at h;omega
 have hg'lo:lo<=g'/\g'<w4.heap.size:=World.ownsRow.lt h4 g' (by simp [Value.ownBlock]);refine ⟨?_,⟨some ⟨g',0,none⟩,cap,vs++[.slice A1 n c1],by rw [List.length_append];rfl,?_,by simp only [Value.ownBlock];intro e;injection e with e;exact hg'P e,fun i hi=>?_⟩,?_⟩
 ·unfold Out_;rw [heap_setCell_same w4 P 0 _ _ _ ho4];rfl
 ·rw [List.length_append];exact World.ownsRow.kept h4 hg5 (by rw [show (Value.slice (some ⟨g',0,none⟩) (Ls.length+1) cap).ownBlock=some g' by simp [Value.ownBlock]];exact .inr (fun e=>by injection e with e;omega))
 ·rw [List.length_append,List.length_singleton] at hi
  have hvl:vs.length=Ls.length:=by have:=hown.1;simpa using this
  by_cases hlt:i<Ls.length
  ·obtain ⟨A',c',e1,e2,e3⟩:=hin i hlt;refine ⟨A',c',by rw [List.getElem?_append_left (by omega)];exact e1,?_,fun b hb=>?_⟩
   ·rw [show (Ls++[g]).getD i []=Ls.getD i [] by simp [List.getD_eq_getElem?_getD,List.getElem?_append_left hlt]];exact ((e2.below hB4).far hg4 (fun b hb=>(e3 b hb).1)).far hg5 (fun b hb e=>by injection e with e;exact (e3 b hb).2 e.symm)
   ·have h1:=e2.own_hi b hb;rw [show (Value.slice (some ⟨g',0,none⟩) (Ls.length+1) cap).ownBlock=some g' by simp [Value.ownBlock]];refine ⟨fun e=>?_,(e3 b hb).2⟩
    injection e with e
    subst e
    rcases hl4 with h|h
    ·exact (e3 g' hb).1 h
    ·rw [World.size_alloc] at h;omega
  ·obtain rfl:i=Ls.length:=by omega
   refine ⟨A1,c1,by rw [<- hvl,List.getElem?_append_right (Nat.le_refl _)];simp,?_,fun b hb=>?_⟩
   ·rw [show (Ls++[g]).getD Ls.length []=g by simp [List.getD_eq_getElem?_getD]];have e4:Ow (w3.alloc o) W0.heap.size A1 n c1 g:=World.ownsRow.alloc ho3 o;exact ((e4.far hg4 (fun b hb e=>by have h1:=ho3.own_lo b hb;have h2:=(World.ownsRow.lt hown b e).2;omega)).far hg5 (fun b hb e=>by have:=ho3.own_lo b hb;injection e with e;omega)).mono (by omega)
   ·have h1:=ho3.own_hi b hb;have h2:=ho3.own_lo b hb;rw [show (Value.slice (some ⟨g',0,none⟩) (Ls.length+1) cap).ownBlock=some g' by simp [Value.ownBlock]];refine ⟨fun e=>?_,by omega⟩
    injection e with e
    subst e
    rcases hl4 with h|h
    ·have:=(World.ownsRow.lt hown g' h).2;omega
    ·rw [World.size_alloc] at h;omega
 ·refine ⟨?_,?_,?_,?_,fun k hk hkP hkv=>?_,fun b hb=>?_⟩
  ·exact hg5.os.trans (hg4.os.trans hB4.os)
  ·exact hg5.tape.trans (hg4.tape.trans hB4.tape)
  ·exact hg5.output.trans (hg4.output.trans hB4.output)
  ·exact Nat.le_trans hB4.size (Nat.le_trans hg4.size hg5.size)
  ·exact (hg5.block k (Nat.lt_of_lt_of_le hk (Nat.le_trans hB4.size hg4.size)) (fun e=>hkP (by injection e))).trans ((hg4.block k (Nat.lt_of_lt_of_le hk hB4.size) (fun e=>hkv e.symm)).trans (hB4.block k hk))
  ·rw [show (Value.slice (some ⟨g',0,none⟩) (Ls.length+1) cap).ownBlock=some g' by simp [Value.ownBlock]] at hb
   injection hb with hb
   subst hb
   rcases hl4 with h|h
   ·exact .inl h
   ·exact .inr (by rw [World.size_alloc] at h;omega)
theorem Rows_.below {w w':World} {lo P:Nat} {v:Value} {Ls:List (List Int)} {n:Nat} (h:Rows_ w lo P v Ls n) (hb:Below w.heap.size w w'):Rows_ w' lo P v Ls n:=by
 obtain ⟨A,c,vs,e,hown,hvP,hin⟩:=h
 refine ⟨A,c,vs,e,World.ownsRow.kept hown (row:=none) ⟨hb.os,hb.tape,hb.output,hb.size,fun k hk _=>hb.block k hk⟩ (by
  cases e:v.ownBlock
  ·exact .inl rfl
  ·exact .inr (by simp)),hvP,fun i hi=>?_⟩
 obtain ⟨A',c',e1,e2,e3⟩:=hin i hi;exact ⟨A',c',e1,e2.below hb,e3⟩
theorem Rows_.own {w:World} {lo P:Nat} {v:Value} {Ls:List (List Int)} {n:Nat} (h:Rows_ w lo P v Ls n):∀ g,v.ownBlock=some g->lo<=g/\g<w.heap.size:=by
 obtain ⟨A,c,vs,rfl,hown,hvP,hin⟩:=h;exact World.ownsRow.lt hown
theorem Chg5.below {w w':World} {P lo B:Nat} {v v':Value} (h:Chg5 w w' P v v') (hv:∀ g,v.ownBlock=some g->lo<=g) (hP:B<=P) (hlo:B<=lo) (hB:B<=w.heap.size):Below B w w':=
 ⟨h.1,h.2.1,h.2.2.1,h.2.2.2.1,fun k hk=>h.2.2.2.2.1 k (Nat.lt_of_lt_of_le hk hB) (by omega) (fun e=>by have:=hv k e;omega)⟩
theorem Rd.rd' {w w':World} {P:Nat} {v v':Value} {B:Nat} {A:Option Addr} {n:Nat} {xs:List Int} (h:Rd w B A n xs) (hc:Chg5 w w' P v v') (hB:B<=w.heap.size) (hne:∀ b off,A=some ⟨b,off,none⟩->b≠P/\v.ownBlock≠some b):Rd w' B A n xs:=Chg5.rd h hc hB hne
theorem s5_len (fit:List Int->Bool) (s most:Nat):∀ f g p Ls,Ls.length<most->(s5 fit s most f g p Ls).length<=most:=by
 intro f
 induction f with
 |zero=>intro g p Ls h;simp only [s5,List.length_append,List.length_singleton];omega
 |succ f ih=>
  intro g p Ls h
  have key:∀ r v (Ls:List (List Int)),Ls.length<=most->(tryV fit (fun g' L'=>s5 fit s most f g' (p+1) L') g p most r v Ls).length<=most:=by
   intro r
   induction r with
   |zero=>intro v Ls h;exact h
   |succ r ihr=>
    intro v Ls h;simp only [tryV]
    split
    ·next h2=>
     refine ihr _ _ ?_
     split
     ·exact ih _ _ _ h2
     ·exact h
    ·exact h
  simp only [s5]
  split
  ·exact ih _ _ _ h
  ·exact key _ _ _ (Nat.le_of_lt h)
def Post5 (w:World) (P lo n:Nat) (v:Value) (Ls:List (List Int)) (e:Ending) (w':World):Prop:=e=.returned (.tuple #[])/\∃ v',Out_ w' P v'/\Rows_ w' lo P v' Ls n/\Chg5 w w' P v v'
set_option maxHeartbeats 2000000 in
theorem specSearch5 (s:Nat) (Ag:Option Addr) (n cg Bg:Nat) (gi:List Int) (Ar:Option Addr) (nr cr Br:Nat) (rs:List RuleM) (hs:s∈[2,3,4]) (hn:Hid ((n:Int)=(s:Int)*s)) (hn16:n<=16) (P lo most:Nat) (hBg':Bg<=lo) (hBr':Br<=lo) (hlo:lo<=P) (hmr:nr<=1099511627776) (hm:most<=1000) (N:Nat):
 ∀ (A:Option Addr) (c B:Nat) (g:List Int) (at_:Nat) (v:Value) (Ls:List (List Int)) (w:World),n-at_=N->at_<=n->Rd w Bg Ag n gi->RdRs w Br Ar nr rs->Rd w B A n g->B<=w.heap.size->(∀ b off,A=some ⟨b,off,none⟩->b≠P/\v.ownBlock≠some b)->Hid (okAll g s n)->Out_ w P v->Rows_ w lo P v Ls n->Ls.length<most->lo<=w.heap.size->
 Calls Tryz.prog 106 #[.agg #[.int .i64 s,.slice Ag n cg,.slice Ar nr cr],.slice A n c,.int .i64 at_,.int .i64 most,.pointer (some ⟨P,0,none⟩)] w (Post5 w P lo n v (s5 (fitB s gi rs) s most (n-at_) g at_ Ls)):=by
 have hBg:Bg<=P:=Nat.le_trans hBg' hlo;have hBr:Br<=P:=Nat.le_trans hBr' hlo
 induction N using Nat.strongRecOn with
 |_ N ih=>
  intro A c B g at_ v Ls w hN hat hgi hr h hB hne hok ho hrw hL hlow;have Ih:=Lib.hid ih;clear ih;have HN:=Lib.hid hN;clear hN;obtain ⟨i0,hi,hz0,hz1,hz2⟩:=info_parts ints_info;have hx0:=pbox_new w s Ag n cg Ar nr cr 26;have hb0:Below w.heap.size w (w.alloc (.cells #[.int .i64 s,.slice Ag n cg,.slice Ar nr cr] 26)):=(Below.refl _ _).alloc (Nat.le_refl _) _
  have hs0:w.heap.size<(w.alloc (.cells #[.int .i64 s,.slice Ag n cg,.slice Ar nr cr] 26)).heap.size:=by simp
  go_enter Tryz.func106,Tryz.ntmps106
  go_wp2
  obtain ⟨W0,hW0⟩:∃ W0,W0=w.alloc (.cells #[.int .i64 s,.slice Ag n cg,.slice Ar nr cr] 26):=⟨_,rfl⟩;rw [<- hW0] at hx0 hb0 hs0;rw [<- hW0];clear hW0;have h0:=h.below (hb0.mono hB)
  go_loopw [2] (fun i wr=>wr=W0/\∃ p:Nat,at_<=p/\p<=n/\i=.int .i64 p/\Hid (s5 (fitB s gi rs) s most (n-at_) g at_ Ls=s5 (fitB s gi rs) s most (n-p) g p Ls)) (fun i _=>n-(intOf i).toNat)
  case atStart=>exact ⟨rfl,at_,Nat.le_refl _,hat,rfl,Lib.hid rfl⟩
  case round=>
   obtain ⟨rfl,p,hp1,hp2,rfl,hsk⟩:=hrel
   by_cases hlt:p<n
   ·obtain ⟨b,off,hA,hbB,hck⟩:=h0.at_ hlt;subst hA;obtain ⟨x0,x4⟩:=hok.out p hlt;have hf:n-p=(n-(p+1))+1:=(by omega)
    by_cases hx:0<nth g p
    ·have hsk2:=Lib.hid (show s5 (fitB s gi rs) s most (n-at_) g at_ Ls=s5 (fitB s gi rs) s most (n-(p+1)) g (p+1) Ls by rw [hsk.out,hf];simp only [s5];rw [if_pos hx]);clear hf
     go_wp2
     go_roundw
     case rel=>exact ⟨by trivial,p+1,by omega,by omega,by go_num,hsk2⟩
     case measure=>simp [intOf];omega
    ·have hsk2:=Lib.hid (show s5 (fitB s gi rs) s most (n-at_) g at_ Ls=tryV (fitB s gi rs) (fun g' L'=>s5 (fitB s gi rs) s most (n-(p+1)) g' (p+1) L') g p most s 1 Ls by rw [hsk.out,hf];simp only [s5];rw [if_neg hx]);have hpn:((p:Int)==(n:Int))=false:=(by simp only [beq_eq_false_iff_ne];omega);have hgw:=hgi.below (hb0.mono (Nat.le_trans hBg (Nat.le_of_lt ho.lt)));have hrw0:=hr.below (hb0.mono (Nat.le_trans hBr (Nat.le_of_lt ho.lt)));have hout0:Out_ wr P v:=(hb0.block P ho.lt).trans ho;have hrows0:=hrw.below hb0;have hPw:=hout0.lt;have hvo:=hrw.own
     have hww:=hb0.size
     have hvw:v.ownBlock≠some w.heap.size:=fun e=>by have:=(hvo _ e).2;omega
     have hwP:w.heap.size≠P:=(by have:=ho.lt;omega);clear hf hsk
     go_wp2
     obtain ⟨W0,hW⟩:∃ W0,W0=wr:=⟨_,rfl⟩;rw [<- hW];rw [<- hW] at hx0 hb0 hs0 h0 hck hgw hrw0 hout0 hrows0 hPw hww;clear hW
     go_loopw [10] (fun i wr=>∃ (q:Nat) (vv:Value) (L':List (List Int)),1<=q/\q<=s+1/\i=.int .i64 q/\Hid (tryV (fitB s gi rs) (fun g' L'=>s5 (fitB s gi rs) s most (n-(p+1)) g' (p+1) L') g p most s 1 Ls=tryV (fitB s gi rs) (fun g' L'=>s5 (fitB s gi rs) s most (n-(p+1)) g' (p+1) L') g p most (s+1-q) q L')/\Out_ wr P vv/\Rows_ wr lo P vv L' n/\Chg5 W0 wr P v vv/\L'.length<=most) (fun i _=>s+1-(intOf i).toNat)
     case atStart=>exact ⟨1,v,Ls,by omega,by omega,rfl,Lib.hid (by rw [Nat.add_sub_cancel]),hout0,hrows0,Chg5.refl _ _ _,Nat.le_of_lt hL⟩
     case round=>
      obtain ⟨q,vv,L',hq1,hq2,rfl,htv,hout,hrows,hchg,hLm⟩:=hrel;have hoc:=hout.cell;obtain ⟨Ao,co,vs,rfl,hown,hvP2,hin⟩:=id hrows;have b0:=(hchg.cell hs0 hwP hvw).trans hx0.1;have b1:=(hchg.cell hs0 hwP hvw).trans hx0.2.1;have b2:=(hchg.cell hs0 hwP hvw).trans hx0.2.2;have hfin:=(Chg5.ofBelow (P:=P) (v:=v) hb0).trans hchg;have hsW:=hchg.2.2.2.1
      by_cases hqs:q<=s
      ·have hqs':(q:Int)<=(s:Int):=(by omega)
       by_cases hlm:L'.length<most
       ·have hlm':(L'.length:Int)<(most:Int):=(by omega)
        have hneW:∀ b' off',(some ⟨b,off,none⟩:Option Addr)=some ⟨b',off',none⟩->b'≠P/\v.ownBlock≠some b':=fun b' off' e=>hne b' off' e
        have hBW:B<=W0.heap.size:=Nat.le_trans hB hww;have hr':Rd wr B (some ⟨b,off,none⟩) n g:=h0.rd' hchg hBW hneW;have hbP:Below lo W0 wr:=hchg.below (fun g hg=>(hvo g hg).1) hlo (Nat.le_refl _) (by omega);have hgw2:=hgw.below (hbP.mono hBg');have hrw2:=hrw0.below (hbP.mono hBr');have hlowr:lo<=wr.heap.size:=(by omega);have hwwr:w.heap.size<wr.heap.size:=(by omega)
        go_wp2_with (at_builtin;(refine push_some rfl (.tmp 53) (.tmp 54) rfl wr.heap.size (some ⟨wr.heap.size,0,none⟩) 0 0 [] b off n c B g rfl rfl (Ow.made0 _ _ (Nat.le_refl _)) (hr'.alloc (by omega) _) (by omega) (by omega) (by simp) ?_);(intro A1 c1 w1 ho1 hg1);(simp only [Nat.zero_add,List.nil_append] at ho1);(obtain ⟨gb,rfl,hlog,hgw1⟩:=ho1.form (by omega));(obtain ⟨hcq,hfq⟩:=ho1.cell hlt);(have hbw1:Below wr.heap.size wr w1:=((Below.refl _ _).alloc (Nat.le_refl _) _).grown hg1 (by simp) (fun k hk=>(Ow.made0 wr wr.heap.size (Nat.le_refl _)).own_lo k hk));(have hgbw:w.heap.size≠gb:=by omega);(have d0:=(cell_other5 (k:=p) (v:=.int .i64 (q:Int)) hgbw).trans ((hbw1.cell (p:=⟨w.heap.size,0,none⟩) hwwr).trans b0));(have d1:=(cell_other5 (k:=p) (v:=.int .i64 (q:Int)) hgbw).trans ((hbw1.cell (p:=⟨w.heap.size,1,none⟩) hwwr).trans b1));(have d2:=(cell_other5 (k:=p) (v:=.int .i64 (q:Int)) hgbw).trans ((hbw1.cell (p:=⟨w.heap.size,2,none⟩) hwwr).trans b2)))
        have ho2:Ow (w1.setCell ⟨gb,p,none⟩ (.int .i64 q)) wr.heap.size (some ⟨gb,0,none⟩) n c1 (g.set p (q:Int)):=by
         have:=(World.ownsRow.stored ho1 p (.int .i64 (q:Int))).1;rw [vals_set] at this;exact this
        have hb2:Below wr.heap.size wr (w1.setCell ⟨gb,p,none⟩ (.int .i64 q)):=(((Below.refl _ _).alloc (Nat.le_refl _) _).grown hg1 (by simp) (fun k hk=>(Ow.made0 wr wr.heap.size (Nat.le_refl _)).own_lo k hk)).setCell hlog _
        generalize w1.setCell ⟨gb,p,none⟩ (.int .i64 (q:Int))=W2 at*
        have hok2:=Lib.hid (okAll_set hok.out h.1 hlt (by omega:(0:Int)<=(q:Int)) hqs');have hBP:P<=wr.heap.size:=Nat.le_of_lt hout.lt;have HF:=Lib.hid (specFits s Ag n cg Bg gi Ar nr cr Br rs (some ⟨gb,0,none⟩) c1 W2.heap.size (g.set p (q:Int)) W2 (hgw2.below (hb2.mono (Nat.le_trans hBg hBP))) (Nat.le_trans (Nat.le_trans hBg hBP) hb2.size) (hrw2.below (hb2.mono (Nat.le_trans hBr hBP))) (Nat.le_trans (Nat.le_trans hBr hBP) hb2.size) hmr ho2.rd (Nat.le_refl _) hs hn hok2);have hstep:s+1-q=(s-q)+1:=(by omega);have hstep2:s+1-(q+1)=s-q:=(by omega);have hs4:s<=4:=(by simp at hs;omega);have hPr:=hout.lt;have hlt2:=World.ownsRow.lt hown
        have hne3:∀ b' off':Nat,(some ⟨gb,0,none⟩:Option Addr)=some ⟨b',off',none⟩->b'≠P/\(Value.slice Ao L'.length co).ownBlock≠some b':=fun b' off' e=>by
         cases e;exact ⟨by omega,fun e=>by have:=(hlt2 _ e).2;omega⟩
        have hout2:Out_ W2 P (.slice Ao L'.length co):=(hb2.block P hPr).trans hout;have hrows2:Rows_ W2 lo P (.slice Ao L'.length co) L' n:=hrows.below hb2;have hc2:Chg5 W0 W2 P v (.slice Ao L'.length co):=hchg.trans (Chg5.ofBelow hb2);have hs2:=hb2.size;clear hcq hfq hg1 ho1 hbw1 hoc hrows hout hown hin hfin hchg b0 b1 b2;refine HF.out.mono ?_;rintro e w3 ⟨rfl,hb3⟩;have hs3:=hb3.size;have hwW2:w.heap.size<W2.heap.size:=(by omega);have e0:=(hb3.cell (p:=⟨w.heap.size,0,none⟩) hwW2).trans d0;have e1:=(hb3.cell (p:=⟨w.heap.size,1,none⟩) hwW2).trans d1;have e2:=(hb3.cell (p:=⟨w.heap.size,2,none⟩) hwW2).trans d2;have hout3:Out_ w3 P (.slice Ao L'.length co):=(hb3.block P hout2.lt).trans hout2;have hrows3:=hrows2.below hb3;have hc3:Chg5 W0 w3 P v (.slice Ao L'.length co):=hc2.trans (Chg5.ofBelow hb3);have hg3:=(hgw2.below (hb2.mono (Nat.le_trans hBg hBP))).below (hb3.mono (Nat.le_trans (Nat.le_trans hBg hBP) hb2.size));have hr3:=(hrw2.below (hb2.mono (Nat.le_trans hBr hBP))).below (hb3.mono (Nat.le_trans (Nat.le_trans hBr hBP) hb2.size));have ho3:=ho2.below hb3;clear hout2 hrows2 hc2 hgw2 hrw2 ho2 d0 d1 d2
        cases hft:fitB s gi rs (g.set p (q:Int))
        ·have Hn:=Lib.hid (show tryV (fitB s gi rs) (fun g' L'=>s5 (fitB s gi rs) s most (n-(p+1)) g' (p+1) L') g p most (s+1-q) q L'=tryV (fitB s gi rs) (fun g' L'=>s5 (fitB s gi rs) s most (n-(p+1)) g' (p+1) L') g p most (s+1-(q+1)) (q+1) L' by rw [hstep,hstep2];simp only [tryV];rw [if_pos hlm,hft];rfl);have Ht:=Lib.hid (htv.out.trans Hn.out);clear hstep hstep2 hft Hn
         go_wp2
         go_roundw
         case rel=>exact ⟨q+1,_,L',by omega,by omega,by go_num,Ht,hout3,hrows3,hc3,hLm⟩
         case measure=>simp [intOf];omega
        ·have Hn:=Lib.hid (show tryV (fitB s gi rs) (fun g' L'=>s5 (fitB s gi rs) s most (n-(p+1)) g' (p+1) L') g p most (s+1-q) q L'=tryV (fitB s gi rs) (fun g' L'=>s5 (fitB s gi rs) s most (n-(p+1)) g' (p+1) L') g p most (s+1-(q+1)) (q+1) (s5 (fitB s gi rs) s most (n-(p+1)) (g.set p (q:Int)) (p+1) L') by rw [hstep,hstep2];simp only [tryV];rw [if_pos hlm,hft];rfl);have Ht:=Lib.hid (htv.out.trans Hn.out);have Hl:=Lib.hid (s5_len (fitB s gi rs) s most (n-(p+1)) (g.set p (q:Int)) (p+1) L' hlm);have Hm:=Lib.hid (show n-(p+1)<N by have:=HN.out;omega)
         have hp1n:p+1<=n:=hlt;have hlow3:lo<=w3.heap.size:=(by omega);clear hstep hstep2 hft Hn
         go_wp2_with (go_at_call 106;(rw [show ((p:Int)+1)=((p+1:Nat):Int) from by omega]);(refine (Ih.out _ Hm.out _ _ _ _ _ _ _ _ rfl hp1n hg3 hr3 ho3.rd (Nat.le_refl _) hne3 hok2 hout3 hrows3 hlm hlow3).mono ?_);rintro e w4 ⟨rfl,v4,hout4,hrows4,hchg4⟩)
         go_roundw
         case rel=>exact ⟨q+1,_,_,by omega,by omega,by go_num,Ht,hout4,hrows4,hc3.trans hchg4,Hl.out⟩
         case measure=>simp [intOf];omega
       ·have hlm':decide ((L'.length:Int)<(most:Int))=false:=(by simp;omega);have HL:=Lib.hid (show s5 (fitB s gi rs) s most (n-at_) g at_ Ls=L' by rw [hsk2.out,htv.out,show s+1-q=(s-q)+1 by omega];simp only [tryV];rw [if_neg hlm])
        go_wp2
        (try simp only [Exit.inBlock,Exit.then])
        refine bodyPost_ret (results_none rfl _ _ _) rfl ?_;rw [HL.out];exact ⟨rfl,_,hout,hrows,hfin⟩
      ·have hqs':decide ((q:Int)<=(s:Int))=false:=(by simp;omega);have HL:=Lib.hid (show s5 (fitB s gi rs) s most (n-at_) g at_ Ls=L' by rw [hsk2.out,htv.out,show s+1-q=0 by omega];rfl)
       go_wp2
       (try simp only [Exit.inBlock,Exit.then])
       refine bodyPost_ret (results_none rfl _ _ _) rfl ?_;rw [HL.out];exact ⟨rfl,_,hout,hrows,hfin⟩
   ·obtain rfl:p=n:=by omega
    obtain ⟨Ao,co,vs,rfl,hown,hvP,hin⟩:=id hrw;have ho1:Out_ wr P (.slice Ao Ls.length co):=(hb0.block P ho.lt).trans ho;have hoc:=ho1.cell;have hof:=ho1.free;have HR:=Lib.hid (fun w' (hb:Below wr.heap.size wr w')=>h0.below (hb.mono (Nat.le_trans hB hb0.size)))
    have hown0:wr.ownsRow lo 23 1 (.slice Ao Ls.length co) Ls.length vs:=World.ownsRow.kept hown (row:=none) ⟨hb0.os,hb0.tape,hb0.output,hb0.size,fun k hk _=>hb0.block k hk⟩ (by
     cases e:(Value.slice Ao Ls.length co).ownBlock
     ·exact .inl rfl
     ·exact .inr (by simp))
    have HO:Hid (∀ w',Below wr.heap.size wr w'->w'.ownsRow lo 23 1 (.slice Ao Ls.length co) Ls.length vs):=Lib.hid (fun w' hb=>World.ownsRow.kept hown0 (row:=none) ⟨hb.os,hb.tape,hb.output,hb.size,fun k hk _=>hb.block k hk⟩ (by
     cases e:(Value.slice Ao Ls.length co).ownBlock
     ·exact .inl rfl
     ·exact .inr (by simp)))
    have hPw:=ho1.lt;have hlow':lo<=wr.heap.size:=(by omega);have HL:=Lib.hid (show s5 (fitB s gi rs) s most (p-at_) g at_ Ls=Ls++[g] by rw [hsk.out,Nat.sub_self];rfl);have hpp:((p:Int)==(p:Int))=true:=(by simp)
    go_wp2
    go_region_law (first
     |(refine step_push_new (by rfl) _ _ (by rfl) wr.heap.size (some ⟨wr.heap.size,0,none⟩) A p c B g (by rfl) (by rfl) (Ow.made0 _ _ (Nat.le_refl _)) (HR.out _ (below_d1 _ _)) (by omega) (below_d1 _ _).size ?_;intro A1 c1 w3 ho3 hg3 hl3;have hbA:Below wr.heap.size wr w3:=below_push (below_d1 _ _) (Ow.made0 _ _ (Nat.le_refl _)) (Nat.le_refl _) (below_d1 _ _).size hg3;have hoc3:=(hbA.cell (p:=⟨P,0,none⟩) hPw).trans hoc;have hP3:=Nat.lt_of_lt_of_le hPw hbA.size)
     |(refine step_append_lies _ (by rfl) _ _ 67 (by rfl) lo 23 i0 (.slice none 0 0) 1 24 Tryz.underlying67 hi hz0 hz1 hz2 (by rfl) (by decide) (.slice Ao Ls.length co) Ls.length vs (by rfl) (HO.out _ (hbA.alloc hbA.size _)) ⟨w3.heap.size,0,none⟩ 1 1 [.slice A1 p c1] (by rfl) (by rfl) (World.news_of_block (cs:= #[.slice A1 p c1]) (t:=23) (fr:=(0,0)) (heap_alloc_new w3 _)) (by simp [Value.oneCell']) (by decide) (by simp only [maxLen];omega) (by omega) (Nat.le_trans hlow' (hbA.alloc hbA.size _).size) _ rfl ?_;intro g' cap w4 h4 hg4 hl4 hlt4;have ho4:Out_ w4 P (.slice Ao Ls.length co):=(hg4.block P (Nat.lt_of_lt_of_le hPw (hbA.alloc hbA.size _).size) (fun e=>hvP e.symm)).trans (((hbA.alloc hbA.size _).block P hPw).trans ho1);have hoc4:=ho4.cell;have hof4:=ho4.free))
    all_goals
     go_wp2
     (try simp only [Exit.inBlock,Exit.then])
     refine bodyPost_ret (results_none rfl _ _ _) rfl ?_;rw [HL.out];obtain ⟨q1,q2,q3⟩:=rows_push hb0 ho hown hin hvP hlow hbA ho3 h4 hg4 hl4;exact ⟨rfl,_,q1,q2,q3⟩
set_option maxRecDepth 8000
def allS (s:Int) (most n:Nat) (gi:List Int) (rs:List RuleM):List (List Int):=if fpB s gi rs gi=true then s5 (fitB s gi rs) s.toNat most n gi 0 [] else []
theorem allS_len (s:Int) (most n:Nat) (gi:List Int) (rs:List RuleM) (h:0<most):(allS s most n gi rs).length<=most:=by
 unfold allS
 split
 ·exact s5_len _ _ _ _ _ _ _ (by simpa using h)
 ·exact Nat.zero_le _
theorem pv_grid {s:Int} {gi:List Int} {rs:List RuleM} {ng:Nat} (h:pvB s gi rs=true) (hl:gi.length=ng):∃ t:Nat,s=t/\t∈[2,3,4]/\(ng:Int)=(t:Int)*t/\ng<=16/\okAll gi t ng:=by
 obtain ⟨hgi,_,_⟩:=pv_gv h;obtain ⟨s2,s4⟩:=gv_size hgi;obtain ⟨t,rfl⟩:=Int.eq_ofNat_of_zero_le (by omega:0<=s)
 have hs:t∈[2,3,4]:=by
  have:t=2\/t=3\/t=4:=by omega
  simpa using this
 have e1:=gv_len hgi;rw [hl] at e1;refine ⟨t,rfl,hs,e1,by have:=(sq_bd s2 s4).2;omega,fun i hi=>gv_nth hgi (by rw [hl];exact hi)⟩
set_option maxHeartbeats 2000000 in
theorem specAll (s:Int) (most:Nat) (Ag:Option Addr) (n cg Bg:Nat) (gi:List Int) (Ar:Option Addr) (nr cr Br:Nat) (rs:List RuleM) (w:World) (hp:PGs w s Ag n cg Bg gi Ar nr cr Br rs) (h0:0<most) (h1:most<=1000):
 Calls Tryz.prog 55 #[.agg #[.int .i64 s,.slice Ag n cg,.slice Ar nr cr],.int .i64 most] w fun e w'=>∃ P v,e=.returned v/\Rows_ w' (w.heap.size+1) P v (allS s most n gi rs) n/\Below w.heap.size w w':=by
 have hx0:=pbox_new w s Ag n cg Ar nr cr 26;have hb0:Below w.heap.size w (w.alloc (.cells #[.int .i64 s,.slice Ag n cg,.slice Ar nr cr] 26)):=(Below.refl _ _).alloc (Nat.le_refl _) _
 have hs0:w.heap.size<(w.alloc (.cells #[.int .i64 s,.slice Ag n cg,.slice Ar nr cr] 26)).heap.size:=by simp
 have HF:=Lib.hid (fun w' (hb:Below w.heap.size w w')=>specPuzzleFits s Ag n cg Bg gi Ar nr cr Br rs Ag n cg Bg gi w' (hp.below hb) (hp.below hb).g (hp.below hb).gB hp.gm);obtain ⟨U,hU⟩:∃ U,U=((w.alloc (.cells #[.int .i64 s,.slice Ag n cg,.slice Ar nr cr] 26)).alloc (.cells #[] 23)).alloc (.cells #[.slice (some ⟨w.heap.size+1,0,none⟩) 0 0] 67):=⟨_,rfl⟩
 have hbU:Below w.heap.size w U:=by rw [hU];exact (hb0.alloc hb0.size _).alloc (by simp;omega) _
 have hsU:U.heap.size=w.heap.size+1+1+1:=by rw [hU];simp
 have hwU:w.heap.size<U.heap.size:=by omega
 obtain ⟨c0,c1,c2⟩:PBox U w.heap.size s Ag n cg Ar nr cr:=by
  rw [hU];exact hx0.below hs0 (((Below.refl _ _).alloc (Nat.le_refl _) _).alloc (by simp) _)
 have hout:Out_ U (w.heap.size+1+1) (.slice (some ⟨w.heap.size+1,0,none⟩) 0 0):=by
  have:=heap_alloc_new ((w.alloc (.cells #[.int .i64 s,.slice Ag n cg,.slice Ar nr cr] 26)).alloc (.cells #[] 23)) (.cells #[.slice (some ⟨w.heap.size+1,0,none⟩) 0 0] 67);rw [World.size_alloc,World.size_alloc] at this;unfold Out_;rw [hU];exact this
 have hrows:Rows_ U (w.heap.size+1) (w.heap.size+1+1) (.slice (some ⟨w.heap.size+1,0,none⟩) 0 0) [] n:=by
  refine ⟨some ⟨w.heap.size+1,0,none⟩,0,[],rfl,?_,by simp [Value.ownBlock],fun i hi=>absurd hi (by simp)⟩;have h:((w.alloc (.cells #[.int .i64 s,.slice Ag n cg,.slice Ar nr cr] 26)).alloc (.cells #[] 23)).ownsRow (w.heap.size+1) 23 1 (.slice (some ⟨(w.alloc (.cells #[.int .i64 s,.slice Ag n cg,.slice Ar nr cr] 26)).heap.size,0,none⟩) 0 0) 0 []:=World.ownsRow_made _ #[] 0 (by simp) (by simp [maxLen]) rfl;rw [World.size_alloc] at h;rw [hU];exact World.ownsRow.alloc h _
 cases hf:fpB s gi rs gi
 ·have HL:=Lib.hid (show allS s most n gi rs=[] by simp [allS,hf])
  go_enter Tryz.func55,Tryz.ntmps55
  go_wp2_with (go_at_call 105;(rw [<- hU];refine (HF.out _ hbU).mono ?_);rintro e w1 ⟨rfl,hb1⟩;rw [hf];have hout1:Out_ w1 _ _:=(hb1.block _ hout.lt).trans hout;have hoc:=hout1.cell)
  go_ret
  exact ⟨_,_,rfl,by rw [HL.out];exact hrows.below hb1,step hbU hb1⟩
 ·obtain ⟨t,rfl,hs,hn',hn16,hok'⟩:=pv_grid (show pvB s gi rs=true by simp only [fpB,Bool.and_eq_true] at hf;exact hf.1.1) hp.g.1;have hn:=Lib.hid hn';have hok:=Lib.hid hok';clear hn' hok'
  have Hne:Hid (∀ b' off':Nat,Ag=some ⟨b',off',none⟩->b'≠w.heap.size+1+1/\(Value.slice (some ⟨w.heap.size+1,0,none⟩) 0 0).ownBlock≠some b'):=Lib.hid (fun b' off' e=>by
   obtain ⟨b,off,hA,hbB,_⟩:=hp.g.at_ (k:=0) (by have:=hn.out;simp at hs;rcases hs with h|h|h<;>subst h<;>omega);rw [hA] at e;cases e;have:=hp.gB
   exact ⟨by omega,by simp only [Value.ownBlock];intro e;injection e with e;omega⟩)
  have HS:=Lib.hid (fun w' (hb:Below U.heap.size U w')=>specSearch5 t Ag n cg Bg gi Ar nr cr Br rs hs hn hn16 (w.heap.size+1+1) (w.heap.size+1) most (Nat.le_trans hp.gB (Nat.le_succ _)) (Nat.le_trans hp.rB (Nat.le_succ _)) (Nat.le_succ _) hp.rm h1 n Ag cg Bg gi 0 (.slice (some ⟨w.heap.size+1,0,none⟩) 0 0) [] w' (Nat.sub_zero _) (Nat.zero_le _) ((hp.below hbU).below hb).g ((hp.below hbU).below hb).r ((hp.below hbU).below hb).g ((hp.below hbU).below hb).gB Hne.out hok ((hb.block _ hout.lt).trans hout) (hrows.below hb) (by simpa using h0) (by have:=hb.size;omega));have HL:=Lib.hid (show allS t most n gi rs=s5 (fitB t gi rs) t most n gi 0 [] by simp [allS,hf])
  go_enter Tryz.func55,Tryz.ntmps55
  go_wp2_with (first|(go_at_call 105;(rw [<- hU];refine (HF.out _ hbU).mono ?_);(rintro e w1 ⟨rfl,hb1⟩;rw [hf]);obtain ⟨d0,d1,d2⟩:PBox w1 w.heap.size t Ag n cg Ar nr cr:=PBox.below ⟨c0,c1,c2⟩ hwU hb1)|(go_at_call 106;(refine (HS.out _ hb1).mono ?_);(rintro e w2 ⟨rfl,v2,hout2,hrows2,hchg2⟩);have hoc:=hout2.cell))
  go_ret
  refine ⟨_,_,rfl,by rw [HL.out];exact hrows2,(step hbU hb1).trans (hchg2.below (lo:=w.heap.size+1) (fun g hg=>?_) (by omega) (by omega) (by have:=hb1.size;omega))⟩;simp only [Value.ownBlock] at hg
  injection hg with hg
  omega
set_option maxRecDepth 8000
def oneB (s:Int) (n:Nat) (gi:List Int) (rs:List RuleM):Bool:=(allS s 2 n gi rs).length==1
set_option maxHeartbeats 1000000 in
theorem specOne (s:Int) (Ag:Option Addr) (n cg Bg:Nat) (gi:List Int) (Ar:Option Addr) (nr cr Br:Nat) (rs:List RuleM) (w:World) (hp:PGs w s Ag n cg Bg gi Ar nr cr Br rs):
 Calls Tryz.prog 140 #[.agg #[.int .i64 s,.slice Ag n cg,.slice Ar nr cr]] w fun e w'=>e=.returned (.bool (oneB s n gi rs))/\Below w.heap.size w w':=by
 have hx0:=pbox_new w s Ag n cg Ar nr cr 26;have hb0:Below w.heap.size w (w.alloc (.cells #[.int .i64 s,.slice Ag n cg,.slice Ar nr cr] 26)):=(Below.refl _ _).alloc (Nat.le_refl _) _;have HA:=Lib.hid (fun w' (hb:Below w.heap.size w w')=>(show Calls Tryz.prog 55 #[.agg #[.int .i64 s,.slice Ag n cg,.slice Ar nr cr],.int .i64 2] w' _ from specAll s 2 Ag n cg Bg gi Ar nr cr Br rs w' (hp.below hb) (by omega) (by omega)));have hL:=allS_len s 2 n gi rs (by omega)
 have HQ:=Lib.hid (show (((allS s 2 n gi rs).length:Int)==1)=oneB s n gi rs by
  unfold oneB;rw [Bool.eq_iff_iff];simp only [beq_iff_eq]
  omega)
 go_enter Tryz.func140,Tryz.ntmps140
 go_wp2_with (go_at_call 55;(refine (HA.out _ hb0).mono ?_);rintro e w1 ⟨P,v,rfl,hrows,hb1⟩;obtain ⟨A1,c1,vs,rfl,_⟩:=hrows)
 go_ret
 exact ⟨by rw [HQ.out];rfl,step hb0 hb1⟩
set_option maxHeartbeats 1000000 in
theorem specWithout (s:Int) (Ag:Option Addr) (n cg Bg:Nat) (gi:List Int) (Ar:Option Addr) (nr cr:Nat) (k:Nat) (w:World) (hg:Rd w Bg Ag n gi) (hB:Bg<=w.heap.size) (hm:n<=1099511627776) (hk:k<n):
 Calls Tryz.prog 142 #[.agg #[.int .i64 s,.slice Ag n cg,.slice Ar nr cr],.int .i64 k] w fun e w'=>∃ A' c',e=.returned (.agg #[.int .i64 s,.slice A' n c',.slice Ar nr cr])/\Ow w' w.heap.size A' n c' (gi.set k 0)/\Below w.heap.size w w':=by
 have hx0:=pbox_new w s Ag n cg Ar nr cr 26;have hb0:Below w.heap.size w (w.alloc (.cells #[.int .i64 s,.slice Ag n cg,.slice Ar nr cr] 26)):=(Below.refl _ _).alloc (Nat.le_refl _) _
 have hs0:w.heap.size<(w.alloc (.cells #[.int .i64 s,.slice Ag n cg,.slice Ar nr cr] 26)).heap.size:=by simp
 obtain ⟨b,off,rfl,hbB,_⟩:=hg.at_ hk
 have hn0:0<n:=by omega
 obtain ⟨V,hV⟩:∃ V,V=(w.alloc (.cells #[.int .i64 s,.slice (some ⟨b,off,none⟩) n cg,.slice Ar nr cr] 26)).alloc (.cells #[.int .i64 0,.slice none 0 0,.slice none 0 0] 26):=⟨_,rfl⟩
 have hbV:Below w.heap.size w V:=by rw [hV];exact hb0.alloc hb0.size _
 have hsV:V.heap.size=w.heap.size+1+1:=by rw [hV];simp
 have hwV:w.heap.size<V.heap.size:=by omega
 have hwV1:w.heap.size+1<V.heap.size:=by omega
 obtain ⟨c0,c1',c2⟩:PBox V w.heap.size s (some ⟨b,off,none⟩) n cg Ar nr cr:=by
  rw [hV];exact hx0.below hs0 ((Below.refl _ _).alloc (Nat.le_refl _) _)
 have hrow:V.heap[w.heap.size+1]? =some (.cells #[.int .i64 0,.slice none 0 0,.slice none 0 0] 26):=by rw [hV];exact heap_alloc2_new w _ _
 have HO:Hid (Ow (V.alloc (.cells #[] 3)) (w.heap.size+1+1) (some ⟨w.heap.size+1+1,0,none⟩) 0 0 []):=Lib.hid (by
  have:=Ow.made0 V (w.heap.size+1+1) (by omega);rw [hsV] at this
  exact this)
 have hbO:Below V.heap.size V (V.alloc (.cells #[] 3)):=(Below.refl _ _).alloc (Nat.le_refl _) _;have HR:=Lib.hid ((hg.below (hbV.mono hB)).below (hbO.mono (Nat.le_trans hB (Nat.le_of_lt hwV))))
 have hsO:w.heap.size+1+1<=(V.alloc (.cells #[] 3)).heap.size:=by simp;omega
 have Hone:=Lib.hid puz_one;have Hi:=Lib.hid puz_info
 go_enter Tryz.func142,Tryz.ntmps142
 go_wp2_with (first
  |(at_builtin;(rw [<- hV]);(refine push_some rfl (.tmp 6) (.tmp 8) rfl (w.heap.size+1+1) (some ⟨w.heap.size+1+1,0,none⟩) 0 0 [] b off n cg Bg gi rfl rfl HO.out HR.out (by omega) hm hsO ?_);intro A1 c1 w1 ho1 hg1;simp only [Nat.zero_add,List.nil_append] at ho1;(obtain ⟨gb,rfl,hlog,hgw1⟩:=ho1.form hn0);(obtain ⟨hcq,hfq⟩:=ho1.cell hk);have hbw1:Below V.heap.size V w1:=hbO.grown hg1 hbO.size (fun k hk=>Nat.le_trans (Nat.le_of_eq hsV) (HO.out.own_lo k hk));have hgb0:w.heap.size≠gb:=Nat.ne_of_lt (Nat.lt_of_lt_of_le (Nat.lt_of_lt_of_le (Nat.lt_succ_self _) (Nat.le_succ _)) hlog);have hgb1:w.heap.size+1≠gb:=Nat.ne_of_lt hlog;(have d0:=(cell_other5 (k:=k) (v:=.int .i64 0) hgb0).trans ((hbw1.cell (p:=⟨w.heap.size,0,none⟩) hwV).trans c0));have d2:=(cell_other5 (k:=k) (v:=.int .i64 0) hgb0).trans ((hbw1.cell (p:=⟨w.heap.size,2,none⟩) hwV).trans c2);(have hr2:=(heap_setCell_other w1 ⟨gb,k,none⟩ (w.heap.size+1) (.int .i64 0) hgb1).trans ((hbw1.block (w.heap.size+1) hwV1).trans hrow)))
  |((refine wpList_store_row rfl 26 _ _ rfl (w.heap.size+1) #[.int .i64 s,.slice (some ⟨gb,0,none⟩) n c1,.slice Ar nr cr] rfl rfl 26 #[.int .i64 0,.slice none 0 0,.slice none 0 0] hr2 (Hi.out _ _ _ _ _ _ _) rfl (Hone.out _ _ _ _ _ _ _) ?_)))
 have ho2:Ow (w1.setCell ⟨gb,k,none⟩ (.int .i64 0)) (w.heap.size+1+1) (some ⟨gb,0,none⟩) n c1 (gi.set k 0):=by
  have:=(World.ownsRow.stored ho1 k (.int .i64 0)).1;rw [vals_set] at this;exact this
 have hBe:Below w.heap.size w ((w1.setCell ⟨gb,k,none⟩ (.int .i64 0)).setRow (w.heap.size+1) #[.int .i64 s,.slice (some ⟨gb,0,none⟩) n c1,.slice Ar nr cr]):=setRow_below5 ((hbV.trans (hbw1.mono hbV.size)).setCell (show w.heap.size<=gb by omega) _) (by omega);refine bodyPost_ret (v:=.agg #[.int .i64 s,.slice (some ⟨gb,0,none⟩) n c1,.slice Ar nr cr]) (results_cell_row (by rfl) _ _ (w.heap.size+1) 26 _ (0,0) _ rfl (setRow_heap _ _ _ _ _ _ hr2) Tryz.underlying26 rfl (Hi.out _ _ _ _ _ _ _)) rfl ⟨_,_,rfl,(ho2.row5 (fun b hb=>?_)).mono (by omega),hBe⟩;have:=ho2.own_lo b hb
 omega
set_option maxRecDepth 8000
def givenB (n:Nat) (gi:List Int) (i:Int):Bool:=inr i 0 ((n:Int)-1)&&decide (0<nth gi i.toNat)
def redB (s:Int) (n:Nat) (gi:List Int) (rs:List RuleM) (i:Int):Bool:=pvB s gi rs&&givenB n gi i&&oneB s n gi rs&&oneB s n (gi.set i.toNat 0) rs
set_option maxHeartbeats 2000000 in
theorem specIsRedundant (s:Int) (Ag:Option Addr) (n cg Bg:Nat) (gi:List Int) (Ar:Option Addr) (nr cr Br:Nat) (rs:List RuleM) (i:Int) (w:World) (hp:PGs w s Ag n cg Bg gi Ar nr cr Br rs):
 Calls Tryz.prog 141 #[.agg #[.int .i64 s,.slice Ag n cg,.slice Ar nr cr],.int .i64 i] w fun e w'=>e=.returned (.bool (redB s n gi rs i))/\Below w.heap.size w w':=by
 have hx0:=pbox_new w s Ag n cg Ar nr cr 26;have hb0:Below w.heap.size w (w.alloc (.cells #[.int .i64 s,.slice Ag n cg,.slice Ar nr cr] 26)):=(Below.refl _ _).alloc (Nat.le_refl _) _
 have hs0:w.heap.size<(w.alloc (.cells #[.int .i64 s,.slice Ag n cg,.slice Ar nr cr] 26)).heap.size:=by simp
 have HP:=Lib.hid (fun w' (hb:Below w.heap.size w w')=>specPuzzleValid s Ag n cg Bg gi Ar nr cr Br rs w' (hp.below hb).g (hp.below hb).gB hp.gm (hp.below hb).r (hp.below hb).rB hp.rm);have HO:=Lib.hid (fun w' (hb:Below w.heap.size w w')=>specOne s Ag n cg Bg gi Ar nr cr Br rs w' (hp.below hb));have hlen:=Lib.hid hp.g.1;have hm:=hp.gm;cases hv:pvB s gi rs
 ·have HL:=Lib.hid (show redB s n gi rs i=false by simp [redB,hv])
  go_enter Tryz.func141,Tryz.ntmps141
  go_wp2_with (go_at_call 22;refine (HP.out _ hb0).mono ?_;rintro e w1 ⟨rfl,hb1⟩;rw [hv];have hB1:=step hb0 hb1;clear hb1)
  go_ret
  exact ⟨by rw [HL.out];rfl,hB1⟩
 ·cases hin:inr i 0 ((n:Int)-1)
  ·have HL:=Lib.hid (show redB s n gi rs i=false by simp [redB,givenB,hin]);have Hin:=Lib.hid hin;clear hin
   go_enter Tryz.func141,Tryz.ntmps141
   go_wp2_with (first|(go_at_call 22;refine (HP.out _ hb0).mono ?_;rintro e w1 ⟨rfl,hb1⟩;rw [hv];have hB1:=step hb0 hb1;obtain ⟨d0,d1,d2⟩:=hx0.below hs0 hb1;clear hb1)|(go_at_call 82;refine (l1In_any _ _ _ _).mono ?_;rintro e w' ⟨rfl,rfl⟩;(rw [Hin.out])))
   go_ret
   exact ⟨by rw [HL.out];rfl,hB1⟩
  ·obtain ⟨k,rfl⟩:=Int.eq_ofNat_of_zero_le (show 0<=i by simp [inr] at hin;omega);have hk:k<n:=(by simp [inr] at hin;omega);have Hin:=Lib.hid hin;clear hin;obtain ⟨b,off,rfl,hbB,hck⟩:=hp.g.at_ hk;have hbw:b<w.heap.size:=Nat.lt_of_lt_of_le hbB hp.gB;have HW:=Lib.hid (fun w' (hb:Below w.heap.size w w')=>specWithout (Bg:=Bg) s (some ⟨b,off,none⟩) n cg gi Ar nr cr k w' (hp.below hb).g (hp.below hb).gB hm hk);have HC:=Lib.hid (fun w' (hb:Below w.heap.size w w')=>((hb.cell (p:=⟨b,off+k,none⟩) hbw).trans hck:w'.cell? ⟨b,off+k,none⟩=some (.int .i64 (nth gi k))))
   by_cases hx:0<nth gi k
   ·cases ho:oneB s n gi rs
    ·have HL:=Lib.hid (show redB s n gi rs k=false by simp [redB,ho])
     go_enter Tryz.func141,Tryz.ntmps141
     go_wp2_with (first|(go_at_call 22;refine (HP.out _ hb0).mono ?_;rintro e w1 ⟨rfl,hb1⟩;rw [hv];have hB1:=step hb0 hb1;obtain ⟨d0,d1,d2⟩:=hx0.below hs0 hb1;have hck1:=HC.out _ hB1;clear hb1)|(go_at_call 82;refine (l1In_any _ _ _ _).mono ?_;rintro e w' ⟨rfl,rfl⟩;(rw [Hin.out]))|(go_at_call 140;refine (HO.out _ hB1).mono ?_;rintro e w2 ⟨rfl,hb2⟩;rw [ho]))
     go_ret
     exact ⟨by rw [HL.out];rfl,step hB1 hb2⟩
    ·cases ho2:oneB s n (gi.set k 0) rs
     all_goals
      have HL:=Lib.hid (show redB s n gi rs k=oneB s n (gi.set k 0) rs by simp [redB,givenB,hv,Hin.out,hx,ho]);rw [ho2] at HL;have HO2:=Lib.hid (fun w' (hb:Below w.heap.size w w') A' c' B' (h:Rd w' B' A' n (gi.set k 0)) (hB:B'<=w'.heap.size)=>specOne s A' n c' B' (gi.set k 0) Ar nr cr Br rs w' ⟨h,hB,hm,(hp.below hb).r,(hp.below hb).rB,hp.rm⟩)
      go_enter Tryz.func141,Tryz.ntmps141
      go_wp2_with (first|(go_at_call 22;refine (HP.out _ hb0).mono ?_;rintro e w1 ⟨rfl,hb1⟩;rw [hv];have hB1:=step hb0 hb1;obtain ⟨d0,d1,d2⟩:=hx0.below hs0 hb1;have hs1:=Nat.lt_of_lt_of_le hs0 hb1.size;have hck1:=HC.out _ hB1;clear hb1)|(go_at_call 82;refine (l1In_any _ _ _ _).mono ?_;rintro e w' ⟨rfl,rfl⟩;(rw [Hin.out]))|(go_at_call 142;refine (HW.out _ hB2).mono ?_;rintro e w3 ⟨A3,c3,rfl,ho3,hb3⟩;have hB3:=step hB2 hb3;clear hb3)|(go_at_call 140;refine (HO.out _ hB1).mono ?_;rintro e w2 ⟨rfl,hb2⟩;rw [ho];have hB2:=step hB1 hb2;obtain ⟨e0,e1,e2⟩:=PBox.below ⟨d0,d1,d2⟩ hs1 hb2;clear hb2)|(go_at_call 140;refine (HO2.out _ hB3 _ _ _ ho3.rd (Nat.le_refl _)).mono ?_;rintro e w4 ⟨rfl,hb4⟩;rw [ho2];have hB4:=step hB3 hb4;clear hb4))
      go_ret
      exact ⟨by rw [HL.out];rfl,hB4⟩
   ·have HL:=Lib.hid (show redB s n gi rs k=false by simp [redB,givenB,hx])
    go_enter Tryz.func141,Tryz.ntmps141
    go_wp2_with (first|(go_at_call 22;refine (HP.out _ hb0).mono ?_;rintro e w1 ⟨rfl,hb1⟩;rw [hv];have hB1:=step hb0 hb1;obtain ⟨d0,d1,d2⟩:=hx0.below hs0 hb1;have hck1:=HC.out _ hB1;clear hb1)|(go_at_call 82;refine (l1In_any _ _ _ _).mono ?_;rintro e w' ⟨rfl,rfl⟩;(rw [Hin.out])))
    go_ret
    exact ⟨by rw [HL.out];rfl,hB1⟩
set_option maxRecDepth 8000
def minL (s:Int) (n:Nat) (rs:List RuleM) (gi:List Int):Nat->List Int
 |0=>gi
 |k+1=>if redB s n (minL s n rs gi k) rs k=true then (minL s n rs gi k).set k 0 else minL s n rs gi k
theorem OwR.keptL {w w':World} {lo G k:Nat} {v:Value} {rs:List RuleM} (h:OwR w lo v rs k) (hg:w.grownBy w' (some G)) (hG:G<lo):OwR w' lo v rs k:=by
 obtain ⟨vs,hown,hin⟩:=h
 refine ⟨vs,World.ownsRow.kept hown hg (by
  cases e:v.ownBlock
  ·exact .inl rfl
  ·refine .inr (fun e2=>?_);have h1:=(World.ownsRow.lt hown _ e).1;have h2:=Option.some.inj e2
   omega),fun i hi=>?_⟩
 obtain ⟨A',c',e0,e1,e2,e3,e4,e5⟩:=hin i hi;exact ⟨A',c',e0,e1,e2,Ow.far e3 hg (fun g hgg e=>by have h1:=e3.own_lo g hgg;have h2:=Option.some.inj e;omega),e4,e5⟩
theorem grown_setRow5 {w:World} {g:Nat} {cs:Array Value}:w.grownBy (w.setRow g cs) (some g):=
 ⟨rfl,rfl,rfl,by simp,fun k hk hne=>by unfold World.setRow;simp only [Array.getElem?_modify];rw [if_neg (fun e=>hne (by rw [e]))]⟩
theorem ownsRow_setX {w:World} {lo sz n X:Nat} {e t:TypeId} {v:Value} {xs:List Value} {cs cs':Array Value} (h:w.ownsRow lo e sz v n xs) (hX:w.heap[X]? =some (.cells cs t)) (hne:t≠e):(w.setRow X cs').ownsRow lo e sz v n xs:=by
 refine World.ownsRow.kept h grown_setRow5 ?_
 rcases h.2 with ⟨rfl,_⟩|⟨g,cap,cur,rfl,hb,hg,_⟩
 ·exact .inl rfl
 ·refine .inr (fun e2=>?_)
  have e3:g=X:=by simpa [Value.ownBlock] using e2
  subst e3;rw [hX] at hg
  injection hg with hg
  injection hg with _ h2 _
  exact hne h2
theorem Ow.setX {w:World} {lo n c X:Nat} {A:Option Addr} {xs:List Int} {cs cs':Array Value} (h:Ow w lo A n c xs) (hX:w.heap[X]? =some (.cells cs 26)):Ow (w.setRow X cs') lo A n c xs:=ownsRow_setX h hX (by decide)
theorem OwR.setX {w:World} {lo k X:Nat} {v:Value} {rs:List RuleM} {cs cs':Array Value} (h:OwR w lo v rs k) (hX:w.heap[X]? =some (.cells cs 26)):OwR (w.setRow X cs') lo v rs k:=by
 obtain ⟨vs,hown,hin⟩:=h;refine ⟨vs,ownsRow_setX hown hX (by decide),fun i hi=>?_⟩;obtain ⟨A',c',e0,e1,e2,e3,e4,e5⟩:=hin i hi;exact ⟨A',c',e0,e1,e2,e3.setX hX,e4,e5⟩
theorem SpQ.setX {w:World} {lo k X:Nat} {v:Value} {Q:Nat->Prop} {cs cs':Array Value} (h:SpQ w lo v k Q) (hX:w.heap[X]? =some (.cells cs 26)):SpQ (w.setRow X cs') lo v k Q:=h.map fun _ hown=>ownsRow_setX hown hX (by decide)
theorem SpQ.mono {w:World} {lo lo' k:Nat} {v:Value} {Q:Nat->Prop} (h:SpQ w lo v k Q) (hl:lo'<=lo):SpQ w lo' v k Q:=by
 obtain ⟨vs,h1,h2⟩:=h;exact ⟨vs,World.ownsRow.mono h1 hl,h2⟩
theorem results_row_tmp {P:Program} {fn:Func} {p q:Tmp} {ty:TypeId} (h:fn.results= #[.cell p ty,.tmp q]) (tmps:Array Value) (w:World) (g:Nat) (t:TypeId) (cs:Array Value) (fr:Nat×Nat) (d:TypeDesc) (b:Value)
 (hp:tmps.getD p undef=.pointer (some ⟨g,0,none⟩)) (hq:tmps.getD q undef=b) (hg:w.heap[g]? =some (.cells cs t fr))
 (hu:P.underlying ty=some d) (hd:(match d with|.struct _|.array _ _=>true|_=>false)=true) (hi:(P.info? ty).map (·.size)=some cs.size):
 (results fn tmps).run P w=.ok (.tuple #[.agg cs,b]) w:=by
 have hp':tmps[p]?.getD undef=.pointer (some ⟨g,0,none⟩):=by simpa using hp
 have hq':tmps[q]?.getD undef=b:=by simpa using hq
 simp [results,h,hp',hq',asAddr,run_loadVar_row w g t ty cs fr d hg hu hd hi]
def MinPost (s:Int) (n:Nat) (gi:List Int) (nr:Nat) (rs:List RuleM) (w:World) (e:Ending) (w':World):Prop:=
 Below w.heap.size w w'/\((e=.returned (.tuple #[.agg #[.int .i64 0,.slice none 0 0,.slice none 0 0],.bool false])/\(pvB s gi rs&&oneB s n gi rs)=false)\/
  ((pvB s gi rs&&oneB s n gi rs)=true/\∃ A1 c1 A2 c2 K,e=.returned (.tuple #[.agg #[.int .i64 s,.slice A1 n c1,.slice A2 nr c2],.bool true])/\Ow w' K A1 n c1 (minL s n rs gi n)/\w.heap.size<=K/\OwR w' w.heap.size (.slice A2 nr c2) rs nr/\SpQ w' w.heap.size (.slice A2 nr c2) nr (fun g=>g<K)))
def MakeG (P lo K n:Nat) (s:Int) (A1:Option Addr) (c1:Nat) (A2:Option Addr) (nr c2:Nat) (gi:List Int) (rs:List RuleM):Nat->Value->World->Prop
 |0,v,_=>v=.pointer (some ⟨P,0,none⟩)
 |1,v,_=>v=.int .i64 s
 |2,v,_=>∃ b,v=.slice (some ⟨b,0,none⟩) 0 0
 |3,v,_=>v=.pointer (some ⟨P,1,none⟩)
 |4,v,_=>v=.slice A1 n c1
 |5,v,w=>∃ A' c',v=.slice A' n c'/\Ow w K A' n c' gi
 |6,v,w=>∃ b,v=.slice (some ⟨b,0,none⟩) 0 0/\w.heap[b]? =some (.cells #[] 84)/\lo<=b
 |7,v,_=>v=.pointer (some ⟨P,2,none⟩)
 |8,v,_=>v=.slice A2 nr c2
 |9,v,w=>∃ A' c',v=.slice A' nr c'/\OwR w lo (.slice A' nr c') rs nr/\SpQ w lo (.slice A' nr c') nr (fun g=>g<K)
 |10,v,w=>∃ A' c' A'' c'',v=.agg #[.int .i64 s,.slice A' n c',.slice A'' nr c'']/\Ow w K A' n c' gi/\OwR w lo (.slice A'' nr c'') rs nr/\SpQ w lo (.slice A'' nr c'') nr (fun g=>g<K)
 |11,v,w=>∃ X,v=.pointer (some ⟨X,0,none⟩)/\w.heap[X]? =some (.cells #[.int .i64 0,.slice none 0 0,.slice none 0 0] 26)/\lo<=X
 |_,_,_=>True
theorem makeG_below {P lo K n:Nat} {s:Int} {A1:Option Addr} {c1:Nat} {A2:Option Addr} {nr c2:Nat} {gi:List Int} {rs:List RuleM} (j:Nat) (v:Value) (w w':World) (hb:Below w.heap.size w w') (h:MakeG P lo K n s A1 c1 A2 nr c2 gi rs j v w):MakeG P lo K n s A1 c1 A2 nr c2 gi rs j v w':=by
 match j,h with
 |0,h=>exact h
 |1,h=>exact h
 |2,h=>exact h
 |3,h=>exact h
 |4,h=>exact h
 |5,⟨A',c',e,h⟩=>exact ⟨A',c',e,h.below hb⟩
 |6,⟨b,e,h,hl⟩=>exact ⟨b,e,(hb.block b (Array.getElem?_eq_some_iff.1 h).1).trans h,hl⟩
 |7,h=>exact h
 |8,h=>exact h
 |9,⟨A',c',e,h,h2⟩=>exact ⟨A',c',e,h.below hb,h2.below hb⟩
 |10,⟨A',c',A'',c'',e,h,h',h2⟩=>exact ⟨A',c',A'',c'',e,h.below hb,h'.below hb,h2.below hb⟩
 |11,⟨X,e,h,hl⟩=>exact ⟨X,e,(hb.block X (Array.getElem?_eq_some_iff.1 h).1).trans h,hl⟩
 |_+12,h=>exact h
set_option maxHeartbeats 2000000 in
theorem specMakeMinimal (s:Int) (Ag:Option Addr) (n cg Bg:Nat) (gi:List Int) (Ar:Option Addr) (nr cr Br:Nat) (rs:List RuleM) (w:World) (hp:PGs w s Ag n cg Bg gi Ar nr cr Br rs) (hm2:nr<=1099511627775):
 Calls Tryz.prog 101 #[.agg #[.int .i64 s,.slice Ag n cg,.slice Ar nr cr]] w (MinPost s n gi nr rs w):=by
 have Hone:=Lib.hid puz_one;have Hi:=Lib.hid puz_info;have hrl:=hp.r.1;obtain ⟨W0,hW0⟩:∃ W0,(w.alloc (.cells #[.int .i64 s,.slice Ag n cg,.slice Ar nr cr] 26)).alloc (.cells #[.int .i64 0,.slice none 0 0,.slice none 0 0] 26)=W0:=⟨_,rfl⟩
 have hb0:Below w.heap.size w W0:=by rw [<- hW0];exact ((Below.refl _ _).alloc (Nat.le_refl _) _).alloc (by simp) _
 have hs0:W0.heap.size=w.heap.size+1+1:=by rw [<- hW0];simp
 have hp0:W0.heap[w.heap.size]? =some (.cells #[.int .i64 s,.slice Ag n cg,.slice Ar nr cr] 26):=by
  rw [<- hW0];exact (Below.heap_alloc _ _ _ (by simp)).trans (heap_alloc_new w _)
 have hq0:W0.heap[w.heap.size+1]? =some (.cells #[.int .i64 0,.slice none 0 0,.slice none 0 0] 26):=by
  rw [<- hW0];have:=heap_alloc_new (w.alloc (.cells #[.int .i64 s,.slice Ag n cg,.slice Ar nr cr] 26)) (.cells #[.int .i64 0,.slice none 0 0,.slice none 0 0] 26);rwa [World.size_alloc] at this
 have hP0:=hp.below (hb0.mono (Nat.le_refl _));have HOP:=Lib.hid (specOwnPuzzle s Ag n cg Bg gi Ar nr cr Br rs W0 hP0.g hP0.gB hp.gm hP0.r hP0.rB hm2);obtain ⟨z0,z1,z2⟩:PBox W0 w.heap.size s Ag n cg Ar nr cr:=⟨cell_of_row _ _ 0 _ _ (0,0) hp0,cell_of_row _ _ 1 _ _ (0,0) hp0,cell_of_row _ _ 2 _ _ (0,0) hp0⟩;have HW0:=Lib.hid hW0;clear hW0 hP0
 go_enter Tryz.func101,Tryz.ntmps101
 go_wp2_with fail
 rw [HW0.out];refine HOP.out.mono ?_;rintro e w1 ⟨A1,c1,A2,c2,rfl,ho1,hor1,hb1⟩;have hp1:=(hb1.block w.heap.size (by omega)).trans hp0;have hq1:=(hb1.block (w.heap.size+1) (by omega)).trans hq0;obtain ⟨W2,hW2⟩:∃ W2,w1.setRow w.heap.size #[.int .i64 s,.slice A1 n c1,.slice A2 nr c2]=W2:=⟨_,rfl⟩
 have hb2:Below w.heap.size w W2:=by rw [<- hW2];exact setRow_below5 (hb0.trans (hb1.mono hb0.size)) (Nat.le_refl _)
 have hp2:W2.heap[w.heap.size]? =some (.cells #[.int .i64 s,.slice A1 n c1,.slice A2 nr c2] 26):=by rw [<- hW2];exact setRow_heap _ _ _ _ _ _ hp1
 have hq2:W2.heap[w.heap.size+1]? =some (.cells #[.int .i64 0,.slice none 0 0,.slice none 0 0] 26):=by
  rw [<- hW2];refine Eq.trans ?_ hq1;unfold World.setRow;simp only [Array.getElem?_modify];rw [if_neg (by omega)]
 have ho2:Ow W2 W0.heap.size A1 n c1 gi:=by rw [<- hW2];exact ho1.row5 (fun b hb=>by have:=ho1.own_lo b hb;omega)
 have hor2:OwR W2 W0.heap.size (.slice A2 nr c2) rs nr:=by rw [<- hW2];exact hor1.keptL grown_setRow5 (by omega)
 have hP2:PGs W2 s A1 n c1 W2.heap.size gi A2 nr c2 W2.heap.size rs:=⟨ho2.rd,Nat.le_refl _,hp.gm,hor2.rd hrl,Nat.le_refl _,hp.rm⟩;have hs2:w.heap.size+1<W2.heap.size:=(Array.getElem?_eq_some_iff.1 hq2).1;have HV:=Lib.hid (fun w' (hb:Below W2.heap.size W2 w')=>specPuzzleValid s A1 n c1 W2.heap.size gi A2 nr c2 W2.heap.size rs w' (hP2.below hb).g (hP2.below hb).gB hp.gm (hP2.below hb).r (hP2.below hb).rB hp.rm);have HO:=Lib.hid (fun w' (hb:Below W2.heap.size W2 w')=>specOne s A1 n c1 W2.heap.size gi A2 nr c2 W2.heap.size rs w' (hP2.below hb));obtain ⟨y0,y1,y2⟩:PBox W2 w.heap.size s A1 n c1 A2 nr c2:=⟨cell_of_row _ _ 0 _ _ (0,0) hp2,cell_of_row _ _ 1 _ _ (0,0) hp2,cell_of_row _ _ 2 _ _ (0,0) hp2⟩
 have HB2:=Lib.hid hb2;cases hv:pvB s gi rs
 ·have hf:(pvB s gi rs&&oneB s n gi rs)=false:=by rw [hv];rfl
  go_wp2_with (first|(refine wpList_store_row rfl 26 _ _ rfl w.heap.size #[.int .i64 s,.slice A1 n c1,.slice A2 nr c2] rfl rfl 26 #[.int .i64 s,.slice Ag n cg,.slice Ar nr cr] hp1 (Hi.out _ _ _ _ _ _ _) rfl (Hone.out _ _ _ _ _ _ _) ?_;rw [hW2])|(go_at_call 22;refine (HV.out _ (Below.refl _ _)).mono ?_;rintro e w3 ⟨rfl,hb3⟩;rw [hv];have hq3:=(hb3.block (w.heap.size+1) hs2).trans hq2)|(refine wpList_store_row rfl 26 _ _ rfl (w.heap.size+1) #[.int .i64 0,.slice none 0 0,.slice none 0 0] rfl rfl 26 #[.int .i64 0,.slice none 0 0,.slice none 0 0] hq3 (Hi.out _ _ _ _ _ _ _) rfl (Hone.out _ _ _ _ _ _ _) ?_))
  have hBe:Below w.heap.size w (w3.setRow (w.heap.size+1) #[.int .i64 0,.slice none 0 0,.slice none 0 0]):=setRow_below5 (HB2.out.trans (hb3.mono HB2.out.size)) (by omega);exact bodyPost_ret (v:=.tuple #[.agg #[.int .i64 0,.slice none 0 0,.slice none 0 0],.bool false]) (results_row_tmp (by rfl) _ _ (w.heap.size+1) 26 _ (0,0) _ _ rfl rfl (setRow_heap _ _ _ _ _ _ hq3) Tryz.underlying26 rfl (Hi.out _ _ _ _ _ _ _)) rfl ⟨hBe,.inl ⟨rfl,hf⟩⟩
 ·have hx2:PBox W2 w.heap.size s A1 n c1 A2 nr c2:=⟨y0,y1,y2⟩;cases ho:oneB s n gi rs
  ·have hf:(pvB s gi rs&&oneB s n gi rs)=false:=by rw [ho,Bool.and_false]
   go_wp2_with (first|(refine wpList_store_row rfl 26 _ _ rfl w.heap.size #[.int .i64 s,.slice A1 n c1,.slice A2 nr c2] rfl rfl 26 #[.int .i64 s,.slice Ag n cg,.slice Ar nr cr] hp1 (Hi.out _ _ _ _ _ _ _) rfl (Hone.out _ _ _ _ _ _ _) ?_;rw [hW2])|(go_at_call 22;refine (HV.out _ (Below.refl _ _)).mono ?_;rintro e w3 ⟨rfl,hb3⟩;rw [hv];obtain ⟨x0,x1,x2⟩:=hx2.below (by omega:w.heap.size<W2.heap.size) hb3)|(go_at_call 140;refine (HO.out _ hb3).mono ?_;rintro e w4 ⟨rfl,hb4'⟩;rw [ho];have hb4:=step hb3 hb4';have hq4:=(hb4.block (w.heap.size+1) hs2).trans hq2)|(refine wpList_store_row rfl 26 _ _ rfl (w.heap.size+1) #[.int .i64 0,.slice none 0 0,.slice none 0 0] rfl rfl 26 #[.int .i64 0,.slice none 0 0,.slice none 0 0] hq4 (Hi.out _ _ _ _ _ _ _) rfl (Hone.out _ _ _ _ _ _ _) ?_))
   have hBe:Below w.heap.size w (w4.setRow (w.heap.size+1) #[.int .i64 0,.slice none 0 0,.slice none 0 0]):=setRow_below5 (HB2.out.trans (hb4.mono HB2.out.size)) (by omega);exact bodyPost_ret (v:=.tuple #[.agg #[.int .i64 0,.slice none 0 0,.slice none 0 0],.bool false]) (results_row_tmp (by rfl) _ _ (w.heap.size+1) 26 _ (0,0) _ _ rfl rfl (setRow_heap _ _ _ _ _ _ hq4) Tryz.underlying26 rfl (Hi.out _ _ _ _ _ _ _)) rfl ⟨hBe,.inl ⟨rfl,hf⟩⟩
  ·have ht:(pvB s gi rs&&oneB s n gi rs)=true:=by rw [hv,ho];rfl
   go_wp2_with (first|(refine wpList_store_row rfl 26 _ _ rfl w.heap.size #[.int .i64 s,.slice A1 n c1,.slice A2 nr c2] rfl rfl 26 #[.int .i64 s,.slice Ag n cg,.slice Ar nr cr] hp1 (Hi.out _ _ _ _ _ _ _) rfl (Hone.out _ _ _ _ _ _ _) ?_;rw [hW2])|(go_at_call 22;refine (HV.out _ (Below.refl _ _)).mono ?_;rintro e w3 ⟨rfl,hb3⟩;rw [hv];obtain ⟨x0,x1,x2⟩:=hx2.below (by omega:w.heap.size<W2.heap.size) hb3)|(go_at_call 140;refine (HO.out _ hb3).mono ?_;rintro e w4 ⟨rfl,hb4'⟩;rw [ho];have hb4:=step hb3 hb4';obtain ⟨x0',x1',x2'⟩:=hx2.below (by omega:w.heap.size<W2.heap.size) hb4))
   obtain ⟨hgi,_,_⟩:=pv_gv hv
   have hn4:0<n:=by
    obtain ⟨q2,q4⟩:=gv_size hgi;have:=gv_len hgi;rw [hp.g.1] at this;have:=(sq_bd q2 q4).1;omega
   obtain ⟨vs2,hown2,hin2⟩:=id hor2;have HX:=Lib.hid (fun w' (hb:Below w4.heap.size w4 w')=>(hx2.below (by omega:w.heap.size<W2.heap.size) (hb4.trans (hb.mono hb4.size))));have HR1:=Lib.hid (fun w' (hb:Below w4.heap.size w4 w')=>(ho2.rd.below (hb4.trans (hb.mono hb4.size))))
   have HOW:=Lib.hid (fun w' (hb:Below w4.heap.size w4 w')=>(show w'.ownsRow W0.heap.size 84 3 (.slice A2 nr c2) nr vs2/\InR w' W0.heap.size (.slice none 0 0) rs vs2 nr from by
    have hbb:=hb4.trans (hb.mono hb4.size);refine ⟨World.ownsRow.kept hown2 (row:=none) ⟨hbb.os,hbb.tape,hbb.output,hbb.size,fun k hk _=>hbb.block k hk⟩ (by cases e:(Value.slice A2 nr c2).ownBlock<;>simp),fun i hi=>?_⟩;obtain ⟨A',c',e0,e1,e2,e3,e4,e5⟩:=hin2 i hi
    exact ⟨A',c',e0,e1,e2,Ow.below e3 hbb,e4,fun g hg e=>by simp [Value.ownBlock] at e⟩))
   have hlo4:W0.heap.size<=w4.heap.size:=by
    have q1:=hb1.size;have q2:=hb4.size;have q3:W2.heap.size=w1.heap.size:=(by rw [<- hW2];simp);omega
   have hlo2:W0.heap.size<=W2.heap.size:=by
    have q1:=hb1.size;have q3:W2.heap.size=w1.heap.size:=(by rw [<- hW2];simp);omega
   have hm1:=hp.gm;have hK4:W2.heap.size<=w4.heap.size:=hb4.size
   have hcb:CbV vs2 nr (fun g=>g<W2.heap.size):=fun i A' n' c' hi he g hg=>by
    obtain ⟨A2',c2',_,e1,_,ho',_⟩:=hin2 i hi;rw [he] at e1
    injection e1 with e1
    rw [e1] at hg;exact ho'.own_hi g hg
   refine wp_region_ds [17,18,19,20,21,22,23,24,25,26,27,4] (MakeG w.heap.size W0.heap.size W2.heap.size n s A1 c1 A2 nr c2 gi rs) (by kernel_rfl) (by kernel_rfl) (by simp) makeG_below ?step ?last
   case step=>
    intro i o a w' hi hoo hb hfr hpre;have e1:a.eval (.tmp 1)=.pointer (some ⟨w.heap.size,0,none⟩):=hfr 1 (by simp);obtain ⟨x0,x1,x2⟩:=HX.out w' hb;have hi12:i<12:=hi;have:i=0\/i=1\/i=2\/i=3\/i=4\/i=5\/i=6\/i=7\/i=8\/i=9\/i=10\/i=11:=(by omega)
    rcases this with rfl|rfl|rfl|rfl|rfl|rfl|rfl|rfl|rfl|rfl|rfl|rfl
    all_goals
     simp only [List.getElem?_toArray,List.getElem?_cons_zero,List.getElem?_cons_succ,Option.some.injEq] at hoo;subst hoo
    ·refine ⟨_,w',?_,Below.refl _ _,rfl⟩;unfold execOp;simp only [e1]
     go_simp
    ·have p0:=hpre ⟨0,.data⟩ (by simp) rfl;have p0':a.eval (.tmp 17)=.pointer (some ⟨w.heap.size,0,none⟩):=p0;refine ⟨_,w',?_,Below.refl _ _,rfl⟩;unfold execOp;simp only [p0']
     go_simp
    ·refine ⟨_,_,?_,(Below.refl _ _).alloc (Nat.le_refl _) (.cells #[] 3),⟨w'.heap.size,rfl⟩⟩;unfold execOp
     go_simp
    ·refine ⟨_,w',?_,Below.refl _ _,rfl⟩;unfold execOp;simp only [e1]
     go_simp
    ·have p0':a.eval (.tmp 20)=.pointer (some ⟨w.heap.size,1,none⟩):=hpre ⟨3,.data⟩ (by simp) rfl;refine ⟨_,w',?_,Below.refl _ _,rfl⟩;unfold execOp;simp only [p0']
     go_simp
    ·obtain ⟨b,hb19⟩:∃ b,a.eval (.tmp 19)=.slice (some ⟨b,0,none⟩) 0 0:=hpre ⟨2,.data⟩ (by simp) rfl;have p21:a.eval (.tmp 21)=.slice A1 n c1:=hpre ⟨4,.data⟩ (by simp) rfl;obtain ⟨A',c',w2,hrun,q1,q2⟩:=fresh_ints 23 b A1 n c1 _ gi (HR1.out w' hb) hn4 hm1;refine ⟨.slice A' n c',w2,?_,q2,A',c',rfl,q1.mono (Nat.le_trans hK4 hb.size)⟩;unfold execOp;simp only [resolve,invoke,builtin,Sem.run_bind,Sem.run_pure,Result.andThen_ok,List.map_toArray,List.map_cons,List.map_nil,hb19,p21,hrun]
    ·refine ⟨_,_,?_,(Below.refl _ _).alloc (Nat.le_refl _) (.cells #[] 84),⟨w'.heap.size,rfl,heap_alloc_new _ _,Nat.le_trans hlo4 hb.size⟩⟩;unfold execOp
     go_simp
    ·refine ⟨_,w',?_,Below.refl _ _,rfl⟩;unfold execOp;simp only [e1]
     go_simp
    ·have p0':a.eval (.tmp 24)=.pointer (some ⟨w.heap.size,2,none⟩):=hpre ⟨7,.data⟩ (by simp) rfl;refine ⟨_,w',?_,Below.refl _ _,rfl⟩;unfold execOp;simp only [p0']
     go_simp
    ·obtain ⟨b,hb23,hlit,hbl⟩:∃ b,a.eval (.tmp 23)=.slice (some ⟨b,0,none⟩) 0 0/\w'.heap[b]? =some (.cells #[] 84)/\W0.heap.size<=b:=hpre ⟨6,.data⟩ (by simp) rfl;have p25:a.eval (.tmp 25)=.slice A2 nr c2:=hpre ⟨8,.data⟩ (by simp) rfl;obtain ⟨hw1,hw2⟩:=HOW.out w' hb;obtain ⟨A',c',w2,hrun,⟨q1,q1'⟩,q2⟩:=fresh_rulesV 24 b A2 nr c2 W0.heap.size W0.heap.size rs vs2 hrl hw1 hw2 hlit hbl hp.rm (Nat.le_trans hlo4 hb.size);refine ⟨.slice A' nr c',w2,?_,q2,A',c',rfl,⟨vs2,q1,q1'⟩,⟨vs2,q1,hcb⟩⟩;unfold execOp;simp only [resolve,invoke,builtin,Sem.run_bind,Sem.run_pure,Result.andThen_ok,List.map_toArray,List.map_cons,List.map_nil,hb23,p25,hrun]
    ·have p18:a.eval (.tmp 18)=.int .i64 s:=hpre ⟨1,.data⟩ (by simp) rfl;obtain ⟨A',c',p22,q22⟩:∃ A' c',a.eval (.tmp 22)=.slice A' n c'/\Ow w' W2.heap.size A' n c' gi:=hpre ⟨5,.data⟩ (by simp) rfl;obtain ⟨A'',c'',p26,q26,q26'⟩:∃ A' c',a.eval (.tmp 26)=.slice A' nr c'/\OwR w' W0.heap.size (.slice A' nr c') rs nr/\SpQ w' W0.heap.size (.slice A' nr c') nr (fun g=>g<W2.heap.size):=hpre ⟨9,.data⟩ (by simp) rfl;refine ⟨.agg #[.int .i64 s,.slice A' n c',.slice A'' nr c''],w',?_,Below.refl _ _,A',c',A'',c'',rfl,q22,q26,q26'⟩;unfold execOp;simp only [List.map_toArray,List.map_cons,List.map_nil,p18,p22,p26]
     go_simp
    ·refine ⟨_,_,?_,(Below.refl _ _).alloc (Nat.le_refl _) (.cells #[.int .i64 0,.slice none 0 0,.slice none 0 0] 26),⟨w'.heap.size,rfl,heap_alloc_new _ _,Nat.le_trans hlo4 hb.size⟩⟩;unfold execOp
     go_simp
   case last=>
    intro o a w5 hoo hb5 hdef htm hfr hpre;simp only [List.length_cons,List.length_nil,Nat.reduceAdd,List.getElem?_toArray,List.getElem?_cons_zero,List.getElem?_cons_succ,Option.some.injEq] at hoo;subst hoo;have g17:a.tmps.getD 17 undef=.pointer (some ⟨w.heap.size,0,none⟩):=hpre 0 (by simp);have g18:a.tmps.getD 18 undef=.int .i64 s:=hpre 1 (by simp);obtain ⟨b19,g19⟩:∃ b,a.tmps.getD 19 undef=.slice (some ⟨b,0,none⟩) 0 0:=hpre 2 (by simp);have g20:a.tmps.getD 20 undef=.pointer (some ⟨w.heap.size,1,none⟩):=hpre 3 (by simp);have g21:a.tmps.getD 21 undef=.slice A1 n c1:=hpre 4 (by simp);obtain ⟨A22,c22,g22,_⟩:∃ A' c',a.tmps.getD 22 undef=.slice A' n c'/\_:=hpre 5 (by simp);obtain ⟨b23,g23,_⟩:∃ b,a.tmps.getD 23 undef=.slice (some ⟨b,0,none⟩) 0 0/\_:=hpre 6 (by simp);have g24:a.tmps.getD 24 undef=.pointer (some ⟨w.heap.size,2,none⟩):=hpre 7 (by simp);have g25:a.tmps.getD 25 undef=.slice A2 nr c2:=hpre 8 (by simp);obtain ⟨A26,c26,g26,_⟩:∃ A' c',a.tmps.getD 26 undef=.slice A' nr c'/\_:=hpre 9 (by simp);obtain ⟨A3,c3,A4,c4,g27,ho5,hor5,hsp5⟩:∃ A' c' A'' c'',a.tmps.getD 27 undef=.agg #[.int .i64 s,.slice A' n c',.slice A'' nr c'']/\Ow w5 W2.heap.size A' n c' gi/\OwR w5 W0.heap.size (.slice A'' nr c'') rs nr/\SpQ w5 W0.heap.size (.slice A'' nr c'') nr (fun g=>g<W2.heap.size):=hpre 10 (by simp)
    obtain ⟨X,g4,hrX,hloX⟩:∃ X,a.tmps.getD 4 undef=.pointer (some ⟨X,0,none⟩)/\w5.heap[X]? =some (.cells #[.int .i64 0,.slice none 0 0,.slice none 0 0] 26)/\W0.heap.size<=X:=hpre 11 (by simp);have h4:a.eval (.tmp 4)=.pointer (some ⟨X,0,none⟩):=g4;have h27:a.eval (.tmp 27)=.agg #[.int .i64 s,.slice A3 n c3,.slice A4 nr c4]:=g27;refine ⟨w5.setRow X #[.int .i64 s,.slice A3 n c3,.slice A4 nr c4],?_,?_⟩
    ·have hst:=run_storeVar_row (P:=Tryz.prog) w5 X 26 26 _ #[.int .i64 s,.slice A3 n c3,.slice A4 nr c4] hrX (Hi.out _ _ _ _ _ _ _) rfl (Hone.out _ _ _ _ _ _ _);unfold execOp;simp only [h4,h27,Instr.storeAt,Instr.sureAddr,Sem.run_bind,Sem.run_pure,Result.andThen_ok,hst]
    ·have key:=htm;simp only [List.foldl_cons,List.foldl_nil,g17,g18,g19,g20,g21,g22,g23,g24,g25,g26,g27,g4,List.setIfInBounds_toArray,List.set_cons_succ,List.set_cons_zero] at key;clear htm hfr hpre g17 g18 g19 g20 g21 g22 g23 g24 g25 g26 g27 g4 h4 h27;obtain ⟨tm,df⟩:=a
     dsimp only at key hdef
     subst key hdef;have hr5:=setRow_heap (w:=w5) X _ #[.int .i64 s,.slice A3 n c3,.slice A4 nr c4] 26 _ hrX;have ho6:=ho5.setX (cs':= #[.int .i64 s,.slice A3 n c3,.slice A4 nr c4]) hrX;have hor6:=hor5.setX (cs':= #[.int .i64 s,.slice A3 n c3,.slice A4 nr c4]) hrX;have hsp6:=hsp5.setX (cs':= #[.int .i64 s,.slice A3 n c3,.slice A4 nr c4]) hrX;have hB6:Below W0.heap.size W2 (w5.setRow X #[.int .i64 s,.slice A3 n c3,.slice A4 nr c4]):=setRow_below5 ((hb4.mono hlo2).trans (hb5.mono hlo4)) hloX;obtain ⟨w6,hw6⟩:∃ w6,w5.setRow X #[.int .i64 s,.slice A3 n c3,.slice A4 nr c4]=w6:=⟨_,rfl⟩;rw [hw6] at hr5 ho6 hor6 hsp6 hB6 ⊢;clear hw6 ho5 hor5 hsp5 hrX;have HB6:=Lib.hid hB6
     go_wp2
     go_loopw [5] (fun i wr=>∃ (k:Nat) (A7 A8:Option Addr) (c7 c8:Nat),k<=n/\i=.int .i64 k/\wr.heap[X]? =some (.cells #[.int .i64 s,.slice A7 n c7,.slice A8 nr c8] 26)/\Ow wr W2.heap.size A7 n c7 (minL s n rs gi k)/\(OwR wr W0.heap.size (.slice A8 nr c8) rs nr/\SpQ wr W0.heap.size (.slice A8 nr c8) nr (fun g=>g<W2.heap.size))/\Below W0.heap.size W2 wr) (fun i _=>n-(intOf i).toNat)
     case atStart=>exact ⟨0,A3,A4,c3,c4,Nat.zero_le _,rfl,hr5,ho6,⟨hor6,hsp6⟩,hB6⟩
     case round=>
      obtain ⟨k,A7,A8,c7,c8,hk,rfl,hr7,ho7,⟨hor7,hsp7⟩,hb7⟩:=hrel;obtain ⟨x0,x1,x2⟩:PBox wr X s A7 n c7 A8 nr c8:=⟨cell_of_row _ _ 0 _ _ (0,0) hr7,cell_of_row _ _ 1 _ _ (0,0) hr7,cell_of_row _ _ 2 _ _ (0,0) hr7⟩
      by_cases hlt:k<n
      ·have hltI:(k:Int)<(n:Int):=(by omega);have hPk:PGs wr s A7 n c7 wr.heap.size (minL s n rs gi k) A8 nr c8 wr.heap.size rs:=⟨ho7.rd,Nat.le_refl _,hm1,hor7.rd hrl,Nat.le_refl _,hp.rm⟩;have hsX:=(Array.getElem?_eq_some_iff.1 hr7).1
       have hsW:W0.heap.size<=wr.heap.size:=by
        have q1:=hb7.size;omega
       have HRd:=Lib.hid (specIsRedundant s A7 n c7 wr.heap.size (minL s n rs gi k) A8 nr c8 wr.heap.size rs (k:Int) wr hPk);have HWo:=Lib.hid (fun w' (hb:Below wr.heap.size wr w')=>specWithout (Bg:=wr.heap.size) s A7 n c7 (minL s n rs gi k) A8 nr c8 k w' (hPk.below hb).g (hPk.below hb).gB hm1 hlt);have hb7':=hb7;cases hred:redB s n (minL s n rs gi k) rs k
       ·have hml:minL s n rs gi (k+1)=minL s n rs gi k:=(by rw [minL,hred];rfl);have Hml:=Lib.hid hml;clear hml
        go_wp2_with (go_at_call 141;refine HRd.out.mono ?_;rintro e w8 ⟨rfl,hb8⟩;rw [hred];have hr8:=(hb8.block X hsX).trans hr7;have ho8:=ho7.below hb8;have hor8:=hor7.below hb8;have hsp8:=hsp7.below hb8;have hB8:=hb7'.trans (hb8.mono hsW))
        refine ⟨⟨k+1,A7,A8,c7,c8,hlt,by simp,hr8,by rw [Hml.out];exact ho8,⟨hor8,hsp8⟩,hB8⟩,by simp [intOf];omega⟩
       ·have hml:minL s n rs gi (k+1)=(minL s n rs gi k).set k 0:=(by rw [minL,hred];rfl);have Hml:=Lib.hid hml;clear hml
        go_wp2_with (first|(go_at_call 141;refine HRd.out.mono ?_;rintro e w8 ⟨rfl,hb8⟩;rw [hred];have hr8:=(hb8.block X hsX).trans hr7;have ho8:=ho7.below hb8;have hor8:=hor7.below hb8;have hsp8:=hsp7.below hb8;have hB8:=hb7'.trans (hb8.mono hsW);obtain ⟨y0,y1,y2⟩:PBox w8 X s A7 n c7 A8 nr c8:=⟨cell_of_row _ _ 0 _ _ (0,0) hr8,cell_of_row _ _ 1 _ _ (0,0) hr8,cell_of_row _ _ 2 _ _ (0,0) hr8⟩)|(go_at_call 142;refine (HWo.out _ hb8).mono ?_;rintro e w9 ⟨A9,c9,rfl,ho9,hb9⟩;have hr9:=(hb9.block X (Nat.lt_of_lt_of_le hsX hb8.size)).trans hr8)|(refine wpList_store_row rfl 26 _ _ rfl X #[.int .i64 s,.slice A9 n c9,.slice A8 nr c8] rfl rfl 26 #[.int .i64 s,.slice A7 n c7,.slice A8 nr c8] hr9 (Hi.out _ _ _ _ _ _ _) rfl (Hone.out _ _ _ _ _ _ _) ?_))
        have ho10:Ow (w9.setRow X #[.int .i64 s,.slice A9 n c9,.slice A8 nr c8]) W2.heap.size A9 n c9 ((minL s n rs gi k).set k 0):=(ho9.mono (Nat.le_trans hb7.size hb8.size)).setX hr9;refine ⟨⟨k+1,A9,A8,c9,c8,hlt,by simp,setRow_heap _ _ _ _ _ _ hr9,by rw [Hml.out];exact ho10,⟨(hor8.below hb9).setX hr9,(hsp8.below hb9).setX hr9⟩,setRow_below5 (hB8.trans (hb9.mono (Nat.le_trans hsW hb8.size))) hloX⟩,by simp [intOf];omega⟩
      ·obtain rfl:k=n:=by omega
       have hq7:=(hb7.block (w.heap.size+1) (by omega)).trans hq2
       go_wp2_with (refine wpList_store_row rfl 26 _ _ rfl (w.heap.size+1) #[.int .i64 s,.slice A7 k c7,.slice A8 nr c8] rfl rfl 26 #[.int .i64 0,.slice none 0 0,.slice none 0 0] hq7 (Hi.out _ _ _ _ _ _ _) rfl (Hone.out _ _ _ _ _ _ _) ?_)
       have hBe:Below w.heap.size w (wr.setRow (w.heap.size+1) #[.int .i64 s,.slice A7 k c7,.slice A8 nr c8]):=setRow_below5 (HB2.out.trans (hb7.mono (by omega))) (by omega);exact bodyPost_ret (v:=.tuple #[.agg #[.int .i64 s,.slice A7 k c7,.slice A8 nr c8],.bool true]) (results_row_tmp (by rfl) _ _ (w.heap.size+1) 26 _ (0,0) _ _ rfl rfl (setRow_heap _ _ _ _ _ _ hq7) Tryz.underlying26 rfl (Hi.out _ _ _ _ _ _ _)) rfl ⟨hBe,.inr ⟨ht,A7,c7,A8,c8,W2.heap.size,rfl,ho7.setX hq7,by omega,(hor7.setX hq7).mono (by omega),(hsp7.setX hq7).mono (by omega)⟩⟩
set_option maxRecDepth 8000
theorem run_push_oneV {w:World} (ty:TypeId) (lo:Nat) (A:Option Addr) (n c b:Nat) (rs:List RuleM) (k v:Int) (A3:Option Addr) (m c3:Nat) (xs:List Int) (hl:rs.length=n) (vs1:List Value) (hown:w.ownsRow lo 84 3 (.slice A n c) n vs1) (hin:InR w lo (.slice A n c) rs vs1 n) (ho:Ow w lo A3 m c3 xs)
 (hlit:w.heap[b]? =some (.cells #[.int .i64 k,.slice A3 m c3,.int .i64 v] 84)) (hn:n<=1099511627775) (hm:m<=1099511627776) (hlo:lo<=w.heap.size):
 ∃ A' c' w',(Builtin.append_ #[24,24] ty #[.slice A n c,.slice (some ⟨b,0,none⟩) 1 1]).run Tryz.prog w=.ok (.slice A' (n+1) c') w'/\(w'.ownsRow lo 84 3 (.slice A' (n+1) c') (n+1) (vs1++[.int .i64 k,.slice A3 m c3,.int .i64 v])/\InR w' lo (.slice A' (n+1) c') (rs++[⟨k,xs,v⟩]) (vs1++[.int .i64 k,.slice A3 m c3,.int .i64 v]) (n+1))/\w.grownBy w' (Value.slice A n c).ownBlock:=by
 have hxl:=ho.len;have hl2:w.ownsRow 0 84 3 (.slice (some ⟨b,0,none⟩) 1 1) 1 [.int .i64 k,.slice A3 m c3,.int .i64 v]:=⟨rfl,.inr ⟨b,1,_,rfl,Nat.zero_le _,hlit,Nat.le_refl _,by simp [maxLen],rfl,rfl⟩⟩
 have hin2:InR w lo (.slice A n c) [⟨k,xs,v⟩] [.int .i64 k,.slice A3 m c3,.int .i64 v] 1:=by
  intro i hi
  obtain rfl:i=0:=by omega
  refine ⟨A3,c3,rfl,by simp [rat,hxl],rfl,by simp only [rat,List.getD_cons_zero];rw [hxl];exact ho,by simp only [rat,List.getD_cons_zero];omega,fun g hg e=>?_⟩;simp only [rat,List.getD_cons_zero] at hg
  rcases hown.2 with ⟨e1,_⟩|⟨g1,cap1,cur1,e1,_,hr1,_⟩
  ·rw [e1] at e;simp [Value.ownBlock] at e
  ·rcases ho.2 with ⟨e2,_⟩|⟨g2,cap2,cur2,e2,_,hr2,_⟩
   ·injection e2 with e2 _ _
    rw [e2] at hg;simp [Value.ownBlock] at hg
   ·injection e2 with e2 _ _
    rw [e1] at e;rw [e2] at hg
    simp [Value.ownBlock] at e hg
    subst e;subst hg;rw [hr1] at hr2
    injection hr2 with hr2
    injection hr2 with _ h2 _
    exact absurd h2 (by decide)
 obtain ⟨A',c',w',hrun,h1,h2,_⟩:=run_push_rulesV ty lo A n c rs vs1 (some ⟨b,0,none⟩) 1 1 [⟨k,xs,v⟩] _ 0 hl hown hin hl2 hin2 (.inl (by omega)) (by omega) (by omega) hlo;exact ⟨A',c',w',hrun,h1,h2⟩
theorem push_rulesV {w:World} {ops:Array Oper} {rest:List Oper} {o:Oper} {a:Act} {Q:Exit->Act->World->Prop} (hgd:o.guard=none) (s x:Operand)
 (ho:o.op=.call { callee:=.builtin .append,args:= #[s,x],argTypes:= #[24,24] })
 (lo:Nat) (A:Option Addr) (n c:Nat) (rs1:List RuleM) (vs1:List Value) (A2:Option Addr) (m c2:Nat) (rs2:List RuleM) (vs2:List Value) (lo2:Nat) (hs:a.eval s=.slice A n c) (hx:a.eval x=.slice A2 m c2) (l1:rs1.length=n)
 (hown:w.ownsRow lo 84 3 (.slice A n c) n vs1) (hin1:InR w lo (.slice A n c) rs1 vs1 n) (hown2:w.ownsRow lo2 84 3 (.slice A2 m c2) m vs2) (hin2:InR w lo (.slice A n c) rs2 vs2 m) (hmn:0<m\/n=0)
 (hn:n<=1099511627776) (hm:m<=1099511627776) (hlo:lo<=w.heap.size)
 (h:∀ A' c' w',w'.ownsRow lo 84 3 (.slice A' (n+m) c') (n+m) (vs1++vs2)->InR w' lo (.slice A' (n+m) c') (rs1++rs2) (vs1++vs2) (n+m)->w.grownBy w' (Value.slice A n c).ownBlock->wpList Tryz.prog ops Q rest (a.put o.dst (.slice A' (n+m) c')) w'):
 wpList Tryz.prog ops Q (o::rest) a w:=by
 refine wpList_plain hgd fun K hK=>?_
 obtain ⟨A',c',w',hrun,⟨h1,h1'⟩,h2,h3⟩:=run_push_rulesV o.type lo A n c rs1 vs1 A2 m c2 rs2 vs2 lo2 l1 hown hin1 hown2 hin2 hmn hn hm hlo;unfold Oper.wp
 simp [execOp,ho,resolve,invoke,builtin,hs,hx,hrun,Result.andThen]
 exact hK _ _ (h A' c' w' h1 h1' h2)
theorem grown_own {w2 w w':World} {G lo:Nat} {v:Value} {e:TypeId} {sz n:Nat} {xs:List Value} (h:w2.grownBy w (some G)) (hown:w.ownsRow lo e sz v n xs) (hlo:w2.heap.size<=lo) (hg:w.grownBy w' v.ownBlock):w2.grownBy w' (some G):=
 ⟨hg.os.trans h.os,hg.tape.trans h.tape,hg.output.trans h.output,Nat.le_trans h.size hg.size,fun k hk hne=>(hg.block k (Nat.lt_of_lt_of_le hk h.size) (fun e=>by have:=(World.ownsRow.lt hown k e.symm).1;omega)).trans (h.block k hk hne)⟩
theorem row_own {w w':World} {lo X:Nat} {v:Value} {e t:TypeId} {sz n:Nat} {xs:List Value} {cs:Array Value} (hX:w.heap[X]? =some (.cells cs t)) (hown:w.ownsRow lo e sz v n xs) (hne:t≠e) (hg:w.grownBy w' v.ownBlock):w'.heap[X]? =some (.cells cs t):=by
 refine (hg.block X (Array.getElem?_eq_some_iff.1 hX).1 (fun e2=>?_)).trans hX
 rcases hown.2 with ⟨rfl,_⟩|⟨g,cap,cur,rfl,hb,hg',_⟩
 ·simp [Value.ownBlock] at e2
 ·have e3:X=g:=by simpa [Value.ownBlock] using e2
  subst e3;rw [hX] at hg'
  injection hg' with hg'
  injection hg' with _ h2 _
  exact hne h2
theorem ow_own {w w':World} {lo lo' A n c} {xs:List Int} {v:Value} {e:TypeId} {sz k:Nat} {vs:List Value} (h:Ow w lo A n c xs) (hown:w.ownsRow lo' e sz v k vs) (hne:3≠e) (hg:w.grownBy w' v.ownBlock):Ow w' lo A n c xs:=by
 refine World.ownsRow.kept h hg ?_
 rcases h.2 with ⟨e1,_⟩|⟨g1,cap1,cur1,e1,_,hr1,_⟩
 ·rw [e1];exact .inl rfl
 ·refine .inr (fun e2=>?_)
  rcases hown.2 with ⟨e3,_⟩|⟨g2,cap2,cur2,e3,_,hr2,_⟩
  ·rw [e1,e3] at e2;simp [Value.ownBlock] at e2
  ·rw [e1,e3] at e2
   simp [Value.ownBlock] at e2
   subst e2;rw [hr1] at hr2
   injection hr2 with hr2
   injection hr2 with _ h2 _
   exact hne h2
set_option maxRecDepth 8000
def boxC (k:Nat):Int:=((k/8*2+k%4/2:Nat):Int)
set_option maxHeartbeats 1000000 in
theorem specBoxRegions (w:World):Calls Tryz.prog 100 #[] w (RetSl w (mapTo boxC 16)):=by
 have hb0:Below w.heap.size w (w.alloc (.cells #[] 3)):=(Below.refl _ _).alloc (Nat.le_refl _) _
 go_enter Tryz.func100,Tryz.ntmps100
 go_wp2
 go_loopw [1,2] (fun v i wr=>∃ (u:Nat) (A':Option Addr) (c':Nat),u<=16/\i=.int .i64 u/\v=.slice A' u c'/\Ow wr w.heap.size A' u c' (mapTo boxC u)/\Below w.heap.size w wr) (fun _ i _=>16-(intOf i).toNat)
 case atStart=>exact ⟨0,_,_,Nat.zero_le _,rfl,rfl,Ow.made0 _ _ (Nat.le_refl _),hb0⟩
 case round=>
  obtain ⟨u,A',c',hu,rfl,rfl,ho,hb⟩:=hrel;have hs:=hb.size
  by_cases hlt:u<16
  ·have hlt':(u:Int)<16:=by omega
   have hu1:u<=1099511627776:=(by omega)
   go_wp2_with (at_builtin;refine push_int rfl (.tmp 8) (.tmp 16) rfl w.heap.size A' u c' (mapTo boxC u) _ rfl rfl ho hu1 hs ?_;intro A5 c5 w5 ho5 hg5)
   go_roundw
   case rel=>exact ⟨u+1,_,_,by omega,by go_num,rfl,by rw [mapTo_succ];exact ho5,push_below hb ho (Nat.le_refl _) hs hg5⟩
   case measure=>simp [intOf];omega
  ·obtain rfl:u=16:=by omega
   go_wp2
   go_ret
   exact retSl_mk ho hb
theorem all_f5 {xs:List Int} {p:Int->Bool} {k n:Nat} (hl:xs.length=n) (hk:k<n) (h:p (nth xs k)=false):xs.all p=false:=by
 refine List.all_eq_false.2 ⟨nth xs k,?_,by simp [h]⟩
 have hk':k<xs.length:=by omega
 have e:nth xs k=xs[k]:=by simp [nth,List.getD_eq_getElem?_getD,hk']
 rw [e];exact List.getElem_mem _
def regB (rg:List Int) (s:Int):Bool:=(rg.all fun x=>inr x 0 (s-1))&&inr s 2 4&&((rg.length:Int)==s*s)
set_option maxHeartbeats 1000000 in
theorem specRegionsValid (A:Option Addr) (c n B:Nat) (rg:List Int) (s:Int) (w:World) (h:Rd w B A n rg) (hm:n<=1099511627776):
 Calls Tryz.prog 137 #[.slice A n c,.int .i64 s] w fun e w'=>e=.returned (.bool (regB rg s))/\w=w':=by
 obtain ⟨q,hq⟩:∃ q,wrap64 (s-1)=q:=⟨_,rfl⟩
 have hreg:regB rg s=((rg.all fun x=>inr x 0 q)&&inr s 2 4&&((rg.length:Int)==s*s)):=by
  cases hs:inr s 2 4
  ·simp [regB,hs]
  ·obtain ⟨h2,h4⟩:=inr_t hs;rw [IntWalk.wrap64_in _ ⟨by omega,by omega⟩] at hq;subst hq;simp only [regB,hs]
 have Hreg:=Lib.hid hreg;clear hreg
 go_enter Tryz.func137,Tryz.ntmps137
 go_wp2
 go_loop [5] (fun i=>∃ k:Nat,k<=n/\i=.int .i64 k/\okTo rg q k) (fun i=>n-(intOf i).toNat)
 case atStart=>exact ⟨0,Nat.zero_le _,rfl,okTo_zero⟩
 case round=>
  obtain ⟨k,hk,rfl,hok⟩:=hrel
  by_cases hlt:k<n
  ·have hlen:=Lib.hid h.1;obtain ⟨b,off,rfl,hb,hck⟩:=h.at_ hlt;cases hv:inr (nth rg k) 0 q
   ·go_wp2_with (go_at_call 82;(try simp only [hq]);refine (l1In_any _ _ _ _).mono ?_;rintro e w' ⟨rfl,rfl⟩)
    go_ret
    exact ⟨by rw [Hreg.out,all_f5 hlen.out hlt (p:=fun x=>inr x 0 q) hv];rfl,rfl⟩
   ·go_wp2_with (go_at_call 82;(try simp only [hq]);refine (l1In_any _ _ _ _).mono ?_;rintro e w' ⟨rfl,rfl⟩)
    go_round
    case rel=>exact ⟨k+1,by omega,by go_num,okTo_succ hok hv⟩
    case measure=>simp [intOf];omega
  ·obtain rfl:k=n:=by omega
   have hall:=Lib.hid (okTo_all hok h.1);have hlen:=Lib.hid h.1;cases hs:inr s 2 4
   ·clear hq
    go_wp2_with (go_at_call 82;refine (l1In_any _ _ _ _).mono ?_;rintro e w' ⟨rfl,rfl⟩)
    go_ret
    exact ⟨by rw [Hreg.out,hs];simp,rfl⟩
   ·obtain ⟨h2,h4⟩:=inr_t hs;clear hq;have hsq:s=2\/s=3\/s=4:=(by omega)
    rcases hsq with rfl|rfl|rfl
    all_goals
     go_wp2_with (go_at_call 82;refine (l1In_any _ _ _ _).mono ?_;rintro e w' ⟨rfl,rfl⟩)
     go_ret
     exact ⟨by rw [Hreg.out,hs,hall.out,hlen.out];simp,rfl⟩
end Go.Proofs.YtlnmioijgclndaaGreatDoor
