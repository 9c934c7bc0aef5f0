import Derived.OrdersHeld
namespace Go.Proofs.YtkeoflnmbcdmfaaGreatDoor
section
variable {P : Program} {ops : Array Oper} {Q : Exit → Act → World → Prop} {md : Region.Mode} {S : World → Prop} {z : Nat}
def shut (md:Region.Mode) (ops:Array Oper) (listed:Array Bool) (U:List Nat) (i:Nat):Bool:=
 U.all fun u=>(listed.getD u true==false)&&(u==i||match ops[u]? with
  |some o=>o.after.any fun e=>Region.binds md e&&U.contains e.on
  |none=>false)
theorem shut_spec {listed:Array Bool} {U:List Nat} {i u:Nat} (h:shut md ops listed U i=true) (hu:u∈U) (hne:u≠i):u∉Region.ready md ops listed:=by
 intro hr;obtain ⟨_,o,ho,hall⟩:=mem_ready.1 hr;have h1:=List.all_eq_true.1 h u hu;rw [Bool.and_eq_true,Bool.or_eq_true] at h1
 rcases h1.2 with h2|h2
 ·exact hne (by simpa using h2)
 ·rw [ho] at h2;obtain ⟨e,he,hb⟩:=Array.any_eq_true'.1 h2;rw [Bool.and_eq_true] at hb;have h3:=hall e he hb.1;have h4:=List.all_eq_true.1 h e.on (by simpa using hb.2);rw [Bool.and_eq_true] at h4
  have h5:listed.getD e.on true=false:=by simpa using h4.1
  rcases Nat.lt_or_ge e.on listed.size with hlt|hge
  ·simp [hlt] at h3 h5
   rw [h5] at h3;cases h3
  ·simp [Array.getElem?_eq_none hge] at h3
theorem shut_mono {listed:Array Bool} {U:List Nat} {i j:Nat} (h:shut md ops listed U i=true) (hj:j∈Region.ready md ops listed) (hne:j≠i):shut md ops (listed.setIfInBounds j true) U i=true:=by
 refine List.all_eq_true.2 fun u hu=>?_
 have h1:=List.all_eq_true.1 h u hu
 have hju:j≠u:=fun e=>by subst e;exact shut_spec h hu hne hj
 rw [getD_set_ne true hju];exact h1
def wpAnyL (P:Program) (md:Region.Mode) (ops:Array Oper) (Q:Exit->Act->World->Prop) (S:World->Prop) (z:Nat):Nat->Array Bool->Act->World->Prop
 |0,listed,a,w=>Region.ready md ops listed=[]/\Q .normal a w
 |fuel+1,listed,a,w=>
  (Region.ready md ops listed=[]->Q .normal a w)/\
  ∀ i∈Region.ready md ops listed,wpOp P ops Q i (fun a' w'=>(i≠z->S w')/\wpAnyL P md ops Q S z fuel (listed.setIfInBounds i true) a' w') a w
theorem wpAny_of_L:∀ (fuel:Nat) (listed:Array Bool) (a:Act) (w:World),wpAnyL P md ops Q S z fuel listed a w->wpAny P md ops Q fuel listed a w
 |0,_,_,_,h=>h
 |fuel+1,_,_,_,h=>⟨h.1,fun i hi=>wpOp_mono (fun a' w' h'=>wpAny_of_L fuel _ a' w' h'.2) (h.2 i hi)⟩
theorem wpAnyL_first {i:Nat} {oi:Oper} {v:Value} {U:List Nat} (hi:ops[i]? =some oi) (hsel:∀ (j:Nat) (o:Oper) cs b,ops[j]? =some o->o.op≠.select cs b)
 (hQ:∀ c a w,Q (.panic c) (a.put oi.dst v) w->Q (.panic c) a w) (hz:z∈U) (hzi:z≠i):
 ∀ (fuel:Nat) (listed:Array Bool) (a:Act) (w:World),shut md ops listed U i=true->
   (∀ j oj,ops[j]? =some oj->j≠i->listed.getD j true=false->(∀ e∈oj.after,Region.binds md e=true->e.on≠i)->oi.apart ops oj=true)->
   i∈Region.ready md ops listed->YieldsIf P ops S oi v a->S w->
   wpAnyL P md ops Q S z fuel (listed.setIfInBounds i true) (a.put oi.dst v) w->wpAnyL P md ops Q S z (fuel+1) listed a w:=by
 intro fuel
 induction fuel with
 |zero=>
  intro listed a w _ _ hr hy hS H;refine ⟨fun h=>(by rw [h] at hr;cases hr),fun j hj=>?_⟩
  by_cases hji:j=i
  ·subst hji;exact hy.wpOp hi hS ⟨fun _=>hS,H⟩
  ·have:=ready_mono hj hji;rw [H.1] at this;cases this
 |succ fuel ih=>
  intro listed a w hU hfree hr hy hS H;refine ⟨fun h=>(by rw [h] at hr;cases hr),fun j hj=>?_⟩
  by_cases hji:j=i
  ·subst hji;exact hy.wpOp hi hS ⟨fun _=>hS,H⟩
  ·have hjz:j≠z:=fun e=>by subst e;exact shut_spec hU hz hji hj
   have h1:=H.2 j (ready_mono hj hji);obtain ⟨hjun,oj,hoj,hall⟩:=mem_ready.1 hj
   have hnot:∀ e∈oj.after,Region.binds md e=true->e.on≠i:=fun e he hb heq=>by
    have h1:=hall e he hb;have h0:=(mem_ready.1 hr).1;rw [heq] at h1
    rcases Nat.lt_or_ge i listed.size with h'|h'
    ·simp [h'] at h0 h1;rw [h0] at h1;cases h1
    ·simp [Array.getElem?_eq_none h'] at h1
   have h2:=wpOp_putIf hoj (hfree j oj hoj hji hjun hnot) (fun cs b=>hsel i oi cs b hi) (fun cs b=>hsel j oj cs b hoj) hQ hy h1
   have hfree':∀ k ok,ops[k]? =some ok->k≠i->(listed.setIfInBounds j true).getD k true=false->
       (∀ e∈ok.after,Region.binds md e=true->e.on≠i)->oi.apart ops ok=true:=fun k ok hk hki hun hno=>by
    refine hfree k ok hk hki ?_ hno
    by_cases hjk:j=k
    ·subst hjk;exact hjun
    ·rw [getD_set_ne true hjk] at hun;exact hun
   refine wpOp_mono (fun a' w' h3=>⟨h3.2.1,ih (listed.setIfInBounds j true) a' w' (shut_mono hU hj hji) hfree' (ready_mono hr (Ne.symm hji)) h3.1 (h3.2.1 hjz) ?_⟩) h2;rw [Array.setIfInBounds_comm _ _ hji];exact h3.2.2
theorem wpAnyL_take (U:List Nat) {i:Nat} {oi:Oper} {v:Value} {fuel:Nat} {listed:Array Bool} {a:Act} {w:World} (hi:ops[i]? =some oi)
 (hs:Region.noSelect ops=true) (hf:Region.free md ops listed i=true) (hr:(Region.ready md ops listed).contains i=true)
 (hu:shut md ops listed U i=true) (hz:U.contains z=true) (hzi:z≠i)
 (hQ:∀ c a w,Q (.panic c) (a.put oi.dst v) w->Q (.panic c) a w) (hy:YieldsIf P ops S oi v a) (hS:S w)
 (h:wpAnyL P md ops Q S z fuel (listed.setIfInBounds i true) (a.put oi.dst v) w):wpAnyL P md ops Q S z (fuel+1) listed a w:=
 wpAnyL_first hi (Region.noSelect_spec hs) hQ (by simpa using hz) hzi fuel listed a w hu (Region.free_spec hi hf) (by simpa using hr) hy hS h
theorem wpAnyL_only {i:Nat} {oi:Oper} {fuel:Nat} {listed:Array Bool} {a:Act} {w:World} (hr:Region.ready md ops listed=[i]) (hi:ops[i]? =some oi)
 (hw:Region.wanted oi (yielded ops a.tmps)=true)
 (h:oi.wp P a w (fun a' w'=>(i≠z->S w')/\wpAnyL P md ops Q S z fuel (listed.setIfInBounds i true) a' w') Q):wpAnyL P md ops Q S z (fuel+1) listed a w:=
 ⟨fun h0=>(by rw [hr] at h0;cases h0),fun j hj=>by
   rw [hr,List.mem_singleton] at hj;subst hj;unfold wpOp;simp only [hi,hw,if_true]
   exact .inl h⟩
theorem wpAnyL_two {i j:Nat} {oi oj:Oper} {fuel:Nat} {listed:Array Bool} {a:Act} {w:World} (hr:Region.ready md ops listed=[i,j]) (hi:ops[i]? =some oi) (hj:ops[j]? =some oj)
 (hw:Region.wanted oi (yielded ops a.tmps)=true) (hw':Region.wanted oj (yielded ops a.tmps)=true)
 (h:oi.wp P a w (fun a' w'=>(i≠z->S w')/\wpAnyL P md ops Q S z fuel (listed.setIfInBounds i true) a' w') Q)
 (h':oj.wp P a w (fun a' w'=>(j≠z->S w')/\wpAnyL P md ops Q S z fuel (listed.setIfInBounds j true) a' w') Q):wpAnyL P md ops Q S z (fuel+1) listed a w:=
 ⟨fun h0=>(by rw [hr] at h0;cases h0),fun k hk=>by
   rw [hr,List.mem_cons,List.mem_singleton] at hk
   rcases hk with rfl|rfl
   ·unfold wpOp;simp only [hi,hw,if_true];exact .inl h
   ·unfold wpOp;simp only [hj,hw',if_true]
    exact .inl h'⟩
theorem wpAnyL_done {fuel:Nat} {listed:Array Bool} {a:Act} {w:World} (hr:Region.ready md ops listed=[]) (h:Q .normal a w):wpAnyL P md ops Q S z fuel listed a w:=by
 cases fuel with
 |zero=>exact ⟨hr,h⟩
 |succ n=>exact ⟨fun _=>h,by rw [hr];simp⟩
theorem wp_region_last {id:Nat} {a:Act} {w:World} (hm:P.follows .mixedOrders=true)
 (h:wpAnyL P .any ops Q S z ops.size (Array.replicate ops.size false) a { w with drawn:=w.drawn+1 }):(Code.region id ops true).wp P Q a w:=
 wp_region_any hm (wpAny_of_L _ _ _ _ h)
end
end Go.Proofs.YtkeoflnmbcdmfaaGreatDoor
