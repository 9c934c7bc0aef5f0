import Derived.Test.YtkeoflnmbcdmfaaGreatDoorHBSc
set_option maxRecDepth 8000
namespace Go.Proofs.YtkeoflnmbcdmfaaGreatDoor
open Go.ChangeShapes Go.WideShapes Go.ChangeAt Go.RowKit
def SeqP (P:Program) (gf:Nat) (lb:Array Value) (Base:World->Prop) (ways:List (List Int)):Prop:=
 ∀ (l:Nat) (J:List (List Int)->World->Prop) (Jx:World->Prop) (W:World),
   (∀ pre X,J pre X->Base X)->
   (∀ pre X Y,J pre X->Below W.heap.size X Y->J pre Y)->
   (∀ pre x X b n c,J pre X->(∃ zs,ways=pre++x::zs)->W.heap.size<=b->Rd X X.heap.size (some ⟨b,0,none⟩) n x->
     YieldAt Fence.wide 0 P l #[.slice (some ⟨b,0,none⟩) n c] X fun e Y=>Mid W.heap.size X Y/\((e=.returned (.bool true)/\J (pre++[x]) Y)\/(e=.returned (.bool false)/\Jx Y)))->
   J [] W->
   Calls P gf (#[.func (.yield l) #[] #[]]++lb) W fun e Y=>(∃ v,e=.returned v)/\(J ways Y\/Jx Y)
theorem range_ownP {P:Program} (m:Nat) {g:Operand} {ps:Array Tmp} {assign body:Code} {Q:Exit->Act->World->Prop} {a:Act} {w:World}
 {gf:Nat} {lb:Array Value} (hg:a.eval g=.func (.func gf) #[] lb) (eg:∀ args w,(callFunc gf args).run P w=.ok (.enter gf args) w) (hps:ps.size=1)
 {Base:World->Prop} {ways:List (List Int)} (hseq:SeqP P gf lb Base ways)
 (I:List (List Int)->World->Prop) (Ix:Code->World->Prop) (hIb:∀ pre X,I pre X->Base X)
 (hI:∀ pre X Y,I pre X->Below w.heap.size X Y->I pre Y) (hIx:∀ c X o,Ix c X->w.heap.size+1<X.heap.size->Ix c (X.putObj (w.heap.size+1) o)) (h0:I [] w) (a₁:Value->Act)
 (hassign:∀ (l:Nat) (v:Value) (W:World) (K:Act->World->Prop),K (a₁ v) W->
   assign.wpIn (Fence.wide.inRound l) m P (Exit.then K (fun _ _ _=>False)) { tmps:=(ps.zip #[v]).foldl (fun t (p,v)=>t.setIfInBounds p v) a.tmps,defers:=[] } W)
 (hbody:∀ (l:Nat) (pre:List (List Int)) (x:List Int) (X:World) (b n c:Nat),I pre X->(∃ zs,ways=pre++x::zs)->w.heap.size<=b->w.heap.size+1<X.heap.size->Rd X X.heap.size (some ⟨b,0,none⟩) n x->
   body.wpIn (Fence.wide.inRound l) m P (midPost w.heap.size I Ix (pre++[x]) X) (a₁ (.slice (some ⟨b,0,none⟩) n c)) X)
 (hdone:∀ (D:Nat) (W:World),w.heap.size<=D->I ways W->W.heap[D]? =some (.deferred (some []))->Q .normal { a with defers:={ target:=.collected D,args:= #[] }::a.defers } W)
 (hstop:∀ (D:Nat) (c:Code) (W:World),w.heap.size<=D->Ix c W->W.heap[D]? =some (.deferred (some []))->c.wpIn Fence.wide m P Q { a with defers:={ target:=.collected D,args:= #[] }::a.defers } W):
 (Code.rangeFunc g ps assign body).wpIn Fence.wide m P Q a w:=by
 refine wpIn_rangeFunc ?_;intro fn _
 obtain ⟨rec,hrec⟩:∃ rec:LoopState->Option Code->Loop,rec=fun st pe=>{ state:=st,pending:=pe,fn,tmps:=a.tmps,params:=ps,assign,body,defers:=w.heap.size }:=⟨_,rfl⟩
 obtain ⟨W1,hW1⟩:∃ W1,(w.alloc (.deferred (some []))).alloc (.loop (rec .ready none))=W1:=⟨_,rfl⟩
 have hs1:W1.heap.size=w.heap.size+2:=by rw [<- hW1];simp
 have hL1:W1.heap[w.heap.size+1]? =some (.loop (rec .ready none)):=by
  rw [<- hW1];have:=World.alloc_heap_new (w.alloc (.deferred (some []))) (.loop (rec .ready none));rwa [World.size_alloc] at this
 have hK1:W1.heap[w.heap.size]? =some (.deferred (some [])):=by
  rw [<- hW1];exact (Below.heap_alloc _ _ _ (by simp)).trans (World.alloc_heap_new w _)
 have hb1:Below w.heap.size w W1:=by
  rw [<- hW1];exact ((Below.refl _ w).alloc (Nat.le_refl _) _).alloc (by simp) _
 refine ⟨w.heap.size+1,[{ target:=.collected w.heap.size,args:= #[] }],W1,{ target:=.fn (.func gf) lb,args:= #[.func (.yield (w.heap.size+1)) #[] #[]] },W1,gf,
  #[.func (.yield (w.heap.size+1)) #[] #[]]++lb,W1,?_,?_,?_,?_,fun h=>by simp [Fence.wide] at h,?_⟩
 ·rw [<- hW1,hrec];exact run_enterLoop_outer _ _ _ _ _
 ·simp only [resolve,hg]
  simp [go_sem]
 ·intro f' _;trivial
 ·simp [invoke,go_sem,eg]
 ·refine callsIn_wide.2 ((hseq (w.heap.size+1)
   (fun pre W=>I pre W/\W.heap[w.heap.size+1]? =some (.loop (rec .ready none))/\W.heap[w.heap.size]? =some (.deferred (some [])))
   (fun W=>∃ c,Ix c W/\W.heap[w.heap.size+1]? =some (.loop (rec .done (some c)))/\W.heap[w.heap.size]? =some (.deferred (some [])))
   W1 (fun pre X h=>hIb pre X h.1)
   (fun pre X Y hs hb=>⟨hI pre X Y hs.1 (hb.mono (by omega)),(hb.block _ (by omega)).trans hs.2.1,(hb.block _ (by omega)).trans hs.2.2⟩)
   ?_ ⟨hI [] w W1 h0 hb1,hL1,hK1⟩).mono ?_)
  ·rintro pre x X b n c ⟨hi,hl,hk⟩ hx hbw hrd;have hlt:w.heap.size+1<X.heap.size:=(Array.getElem?_eq_some_iff.1 hl).1;have hy:=run_yield (P:=P) (args:= #[.slice (some ⟨b,0,none⟩) n c]) hl (by rw [hrec];simp [hps]);rw [hrec] at hy;refine ⟨fn,_,assign,body,hy,roundIn_any (m:=m) (roundIn_of_wpIn trivial (hassign _ (.slice (some ⟨b,0,none⟩) n c) X _ ⟨_,run_beginRound hl (by rw [hrec]),?_⟩))⟩;obtain ⟨X2,hX2⟩:∃ X2,X.putObj (w.heap.size+1) (.loop { rec .ready none with state:=.busy })=X2:=⟨_,rfl⟩;have hl2:X2.heap[w.heap.size+1]? =some (.loop { rec .ready none with state:=.busy }):=(by rw [<- hX2];exact World.putObj_heap_same hlt)
   have hk2:X2.heap[w.heap.size]? =some (.deferred (some [])):=(by rw [<- hX2];exact (World.putObj_heap_other (by omega)).trans hk);have hbX:Below w.heap.size X X2:=(by rw [<- hX2];exact below_put _ (by omega) hl);have hm2:Mid W1.heap.size X X2:=⟨by rw [<- hX2];simp,fun k hk' _=>by rw [<- hX2];exact World.putObj_heap_other (by omega)⟩;have hrd2:Rd X2 X2.heap.size (some ⟨b,0,none⟩) n x:=rd_block hrd (by rw [<- hX2];exact World.putObj_heap_other (by omega)) hm2.size;rw [hX2];refine wpIn_mono (hbody _ pre x X2 b n c (hI _ _ _ hi hbX) hx (by omega) (by rw [<- hX2];simpa using hlt) hrd2) ?_
   have fin:∀ (jump:Option Code) (W3:World),Mid w.heap.size X2 W3->
       (Instr.endRound (w.heap.size+1) jump).run P W3=.ok (.bool jump.isNone) (W3.putObj (w.heap.size+1) (.loop (rec (if jump.isNone then .ready else .done) jump)))/\
       Below w.heap.size W3 (W3.putObj (w.heap.size+1) (.loop (rec (if jump.isNone then .ready else .done) jump)))/\
       Mid W1.heap.size X (W3.putObj (w.heap.size+1) (.loop (rec (if jump.isNone then .ready else .done) jump)))/\
       (W3.putObj (w.heap.size+1) (.loop (rec (if jump.isNone then .ready else .done) jump))).heap[w.heap.size+1]? =some (.loop (rec (if jump.isNone then .ready else .done) jump))/\
       (W3.putObj (w.heap.size+1) (.loop (rec (if jump.isNone then .ready else .done) jump))).heap[w.heap.size]? =some (.deferred (some [])):=fun jump W3 hk3=>by
    have hl3:=(hk3.same (w.heap.size+1) (by omega) (Array.getElem?_eq_some_iff.1 hl2).1).trans hl2;have hlt3:=(Array.getElem?_eq_some_iff.1 hl3).1;have:=run_endRound (P:=P) jump hl3;rw [hrec] at this ⊢;exact ⟨this,below_put _ (by omega) hl3,(hm2.trans (hk3.mono (by omega))).trans ⟨by simp,fun k hk' _=>World.putObj_heap_other (by omega)⟩,World.putObj_heap_same hlt3,(World.putObj_heap_other (by omega)).trans ((hk3.same _ (Nat.le_refl _) (Array.getElem?_eq_some_iff.1 hk2).1).trans hk2)⟩
   rintro e a3 W3 hp
   cases e with
   |normal=>
    obtain ⟨hk3,hi3⟩:=hp;obtain ⟨hr,hb4,hm4,hl4,hk4⟩:=fin none W3 hk3;exact ⟨_,_,hr,hm4,.inl ⟨rfl,hI _ _ _ hi3 hb4,hl4,hk4⟩⟩
   |ret=>
    obtain ⟨hk3,hi3⟩:=hp;obtain ⟨hr,hb4,hm4,hl4,hk4⟩:=fin (some .ret) W3 hk3;exact ⟨_,_,hr,hm4,.inr ⟨rfl,.ret,hIx _ _ _ hi3 (by have:=(Array.getElem?_eq_some_iff.1 hl4).1;simpa using this),hl4,hk4⟩⟩
   |exit id=>
    obtain ⟨hk3,hi3⟩:=hp;obtain ⟨hr,hb4,hm4,hl4,hk4⟩:=fin (some (.exit id)) W3 hk3;exact ⟨_,_,hr,hm4,.inr ⟨rfl,.exit id,hIx _ _ _ hi3 (by have:=(Array.getElem?_eq_some_iff.1 hl4).1;simpa using this),hl4,hk4⟩⟩
   |goto t=>
    obtain ⟨hk3,hi3⟩:=hp;obtain ⟨hr,hb4,hm4,hl4,hk4⟩:=fin (some (.goto t)) W3 hk3;exact ⟨_,_,hr,hm4,.inr ⟨rfl,.goto t,hIx _ _ _ hi3 (by have:=(Array.getElem?_eq_some_iff.1 hl4).1;simpa using this),hl4,hk4⟩⟩
   |panic ch=>exact hp.elim
   |outgrown=>exact hp.elim
  ·rintro e W2 ⟨⟨v,rfl⟩,(⟨hi,hl,hk⟩|⟨c,hi,hl,hk⟩)⟩
   ·exact ⟨none,_,by have:=run_endLoop (P:=P) hl (by rw [hrec];simp);rw [hrec] at this;exact this,hdone _ _ (Nat.le_refl _) (hI _ _ _ hi (below_put _ (by omega) hl)) ((World.putObj_heap_other (by omega)).trans hk)⟩
   ·exact ⟨some c,_,by have:=run_endLoop (P:=P) hl (by rw [hrec];simp);rw [hrec] at this;exact this,hstop _ c _ (Nat.le_refl _) (hIx _ _ _ hi (Array.getElem?_eq_some_iff.1 hl).1) ((World.putObj_heap_other (by omega)).trans hk)⟩
theorem range_skipP {P:Program} (m:Nat) {g:Operand} {p:Nat} {body:Code} {Q:Exit->Act->World->Prop} {a:Act} {w:World}
 {gf:Nat} {lb:Array Value} (hg:a.eval g=.func (.func gf) #[] lb) (eg:∀ args w,(callFunc gf args).run P w=.ok (.enter gf args) w)
 {Base:World->Prop} {ways:List (List Int)} (hseq:SeqP P gf lb Base ways)
 (I:List (List Int)->World->Prop) (Ix:Code->World->Prop) (hIb:∀ pre X,I pre X->Base X)
 (hI:∀ pre X Y,I pre X->Below w.heap.size X Y->I pre Y) (hIx:∀ c X o,Ix c X->w.heap.size+1<X.heap.size->Ix c (X.putObj (w.heap.size+1) o)) (h0:I [] w)
 (hbody:∀ (l:Nat) (pre:List (List Int)) (x:List Int) (X:World) (b n c:Nat),I pre X->(∃ zs,ways=pre++x::zs)->w.heap.size<=b->w.heap.size+1<X.heap.size->Rd X X.heap.size (some ⟨b,0,none⟩) n x->
   body.wpIn (Fence.wide.inRound l) m P (midPost w.heap.size I Ix (pre++[x]) X) { tmps:=a.tmps.setIfInBounds p (.slice (some ⟨b,0,none⟩) n c),defers:=[] } X)
 (hdone:∀ (D:Nat) (W:World),w.heap.size<=D->I ways W->W.heap[D]? =some (.deferred (some []))->Q .normal { a with defers:={ target:=.collected D,args:= #[] }::a.defers } W)
 (hstop:∀ (D:Nat) (c:Code) (W:World),w.heap.size<=D->Ix c W->W.heap[D]? =some (.deferred (some []))->c.wpIn Fence.wide m P Q { a with defers:={ target:=.collected D,args:= #[] }::a.defers } W):
 (Code.rangeFunc g #[p] .skip body).wpIn Fence.wide m P Q a w:=
 range_ownP m hg eg rfl hseq I Ix hIb hI hIx h0 (fun v=>{ tmps:=a.tmps.setIfInBounds p v,defers:=[] }) (fun l v W K hK=>by
  refine wpIn_skip ?_
  simpa [Exit.then] using hK) hbody hdone hstop
theorem range_twoP {P:Program} (m:Nat) {g:Operand} {p q:Nat} {assign body:Code} {Q:Exit->Act->World->Prop} {a:Act} {w:World}
 {gf:Nat} {lb:Array Value} (hg:a.eval g=.func (.func gf) #[] lb) (eg:∀ args w,(callFunc gf args).run P w=.ok (.enter gf args) w)
 {Base:World->Prop} {ways:List (List Int)} (hseq:SeqP P gf lb Base ways)
 (I:List (List Int)->World->Prop) (Ix:Code->World->Prop) (hIb:∀ pre X,I pre X->Base X)
 (hI:∀ pre X Y,I pre X->Below w.heap.size X Y->I pre Y) (hIx:∀ c X o,Ix c X->w.heap.size+1<X.heap.size->Ix c (X.putObj (w.heap.size+1) o)) (h0:I [] w)
 (hassign:∀ (l:Nat) (v:Value) (W:World) (K:Act->World->Prop),K { tmps:=(a.tmps.setIfInBounds p v).setIfInBounds q v,defers:=[] } W->
   assign.wpIn (Fence.wide.inRound l) m P (Exit.then K (fun _ _ _=>False)) { tmps:=a.tmps.setIfInBounds p v,defers:=[] } W)
 (hbody:∀ (l:Nat) (pre:List (List Int)) (x:List Int) (X:World) (b n c:Nat),I pre X->(∃ zs,ways=pre++x::zs)->w.heap.size<=b->w.heap.size+1<X.heap.size->Rd X X.heap.size (some ⟨b,0,none⟩) n x->
   body.wpIn (Fence.wide.inRound l) m P (midPost w.heap.size I Ix (pre++[x]) X) { tmps:=(a.tmps.setIfInBounds p (.slice (some ⟨b,0,none⟩) n c)).setIfInBounds q (.slice (some ⟨b,0,none⟩) n c),defers:=[] } X)
 (hdone:∀ (D:Nat) (W:World),w.heap.size<=D->I ways W->W.heap[D]? =some (.deferred (some []))->Q .normal { a with defers:={ target:=.collected D,args:= #[] }::a.defers } W)
 (hstop:∀ (D:Nat) (c:Code) (W:World),w.heap.size<=D->Ix c W->W.heap[D]? =some (.deferred (some []))->c.wpIn Fence.wide m P Q { a with defers:={ target:=.collected D,args:= #[] }::a.defers } W):
 (Code.rangeFunc g #[p] assign body).wpIn Fence.wide m P Q a w:=
 range_ownP m hg eg rfl hseq I Ix hIb hI hIx h0 (fun v=>{ tmps:=(a.tmps.setIfInBounds p v).setIfInBounds q v,defers:=[] }) (fun l v W K hK=>by
  simpa using hassign l v W K hK) hbody hdone hstop
def SBase (W0:World) (B0 PB s:Nat) (Ag:Option Addr) (n cg:Nat) (Ar:Option Addr) (nr cr:Nat) (X:World):Prop:=Below B0 W0 X/\PBox X PB s Ag n cg Ar nr cr
theorem cov_seq {W0:World} {B0 s n l:Nat} {gi:List Int} {rs:List RuleM} {J:List (List Int)->World->Prop} {Jx:World->Prop} {W:World} (hB0:B0<=W0.heap.size) (hs:s∈[2,3,4]) (hn:n=s*s) (hv:pvB s gi rs=true) (hT:∀ X,Below B0 W0 X->Tz X)
 (hok:∀ i,i<n->0<=nth gi i/\nth gi i<=(s:Int)) (hJ0:∀ pre X,J pre X->Below B0 W0 X)
 (hJs:∀ pre X Y,J pre X->Below W.heap.size X Y->J pre Y)
 (hY:∀ pre x X b n c,J pre X->(∃ zs,cv s gi rs (s*s) []=pre++x::zs)->W.heap.size<=b->Rd X X.heap.size (some ⟨b,0,none⟩) n x->
   YieldAt Fence.wide 0 Tryz.prog l #[.slice (some ⟨b,0,none⟩) n c] X fun e Y=>Mid W.heap.size X Y/\((e=.returned (.bool true)/\J (pre++[x]) Y)\/(e=.returned (.bool false)/\Jx Y)))
 (h0:J [] W) (G OB RB L:Nat) (X:World) (hM:W.heap.size<=G/\W.heap.size<=OB/\W.heap.size<=RB/\W.heap.size<=L/\G<L/\OB≠G/\RB≠G/\OB<L/\RB<L) (hLX:L<=X.heap.size) (hSR:SR W0 B0 s gi rs OB RB L X) (ho:Ow X W.heap.size (some ⟨G,0,none⟩) n n (zeros n)) (hb:Below W.heap.size W X):
   Calls Tryz.prog 125 #[sVal G OB RB n,.int .u64 (lf s [] 0:Nat),.func (.yield l) #[] #[]] X fun e Y=>(∃ v,e=.returned v)/\(J (cv s gi rs (s*s) []) Y\/Jx Y):=by
 subst hn;refine Calls.mono (cover_any (T:=cv s gi rs (s*s) []) (l:=l) (W0:=W0) (B0:=B0) (G:=G) (OB:=OB) (RB:=RB) (L:=L) (M:=W.heap.size) (lo:=W.heap.size) (s:=s) (n:=s*s) (gi:=gi) (rs:=rs) (J:=fun pre X=>J pre X/\W.heap.size<=X.heap.size) (Jx:=Jx) hv hs rfl hok hB0 hT ⟨hM.1,hM.2.1,hM.2.2.1,hM.2.2.2.1,hM.2.2.2.2.1,hM.2.2.2.2.2.1,hM.2.2.2.2.2.2.1,hM.2.2.2.2.2.2.2.1,hM.2.2.2.2.2.2.2.2,hM.1⟩ (fun pre X h=>hJ0 _ _ h.1) (fun pre X Y h hg=>⟨hJs _ _ _ h.1 (Below.of_grown hg h.2 hM.1),Nat.le_trans h.2 hg.size⟩) ?cb (s*s) 0 [] (zeros (s*s)) [] X (Nat.zero_add _) rfl ⟨hJs _ _ _ h0 hb,hb.size⟩ hLX hSR ho (fun i hi=>absurd hi (Nat.not_lt_zero i)) (fun i hi=>absurd hi (Nat.not_lt_zero i)) (fun q hq=>absurd hq (Nat.not_lt_zero q)) ⟨[],by simp⟩) ?fin
 case cb=>
  intro pre ys X hm h ho
  have hGX:G<X.heap.size:=by
   obtain ⟨g,e,_,hg⟩:=ho.form (by simp at hs;rcases hs with rfl|rfl|rfl<;>omega);cases e;exact hg
  obtain ⟨fn,tmps,assign,body,hyy,hR⟩:=hY _ ys X G (s*s) (s*s) h.1 hm hM.1 (ho.rd);refine ⟨fn,tmps,assign,body,hyy,hR.mono ?_⟩;rintro e Y ⟨hm2,(⟨rfl,hj⟩|⟨rfl,hx⟩)⟩
  ·exact ⟨true,rfl,.inl ⟨rfl,⟨hj,Nat.le_trans h.2 hm2.size⟩,hm2.x,ho.same (hm2.same G hM.1 hGX)⟩⟩
  ·exact ⟨false,rfl,.inr ⟨rfl,hx⟩⟩
 case fin=>
  rintro e Y (⟨rfl,hj,_⟩|⟨rfl,hx⟩)
  ·exact ⟨⟨_,rfl⟩,.inl (by simpa using hj.1)⟩
  ·exact ⟨⟨_,rfl⟩,.inr hx⟩
set_option maxHeartbeats 1000000 in
theorem sols_seq (W0:World) (B0 PB s n:Nat) (Ag:Option Addr) (cg:Nat) (gi:List Int) (Ar:Option Addr) (nr cr:Nat) (rs:List RuleM) (hB0:B0<=W0.heap.size) (hs:s∈[2,3,4]) (hn:n=s*s) (hg:Rd W0 B0 Ag n gi) (hr:RdRc W0 B0 Ar nr rs) (hmr:nr<=20) (hv:pvB s gi rs=true) (hT:∀ X,Below B0 W0 X->Tz X):
 SeqP Tryz.prog 123 #[.pointer (some ⟨PB,0,none⟩)] (SBase W0 B0 PB s Ag n cg Ar nr cr) (cv s gi rs (s*s) []):=by
 intro l J Jx W hJb hJs hY h0;obtain ⟨w0,w1⟩:=hJb _ _ h0;have hPB:PB<W.heap.size:=cell_lt w1.1
 have hok:∀ i,i<n->0<=nth gi i/\nth gi i<=(s:Int):=fun i hi=>gv_nth (pv_gv hv).1 (by rw [hg.1];exact hi)
 have HSe:=Lib.hid (search_any W0 B0 s n Ag cg gi Ar nr cr rs W w0 hB0 hs hn hg hr hmr hv);have HAl:=Lib.hid (fun w'=>allItems_any s w' hs);have HC:=Lib.hid (cov_seq hB0 hs hn hv hT hok (fun pre X h=>(hJb _ _ h).1) hJs hY h0);have hlf:lf s [] 0=2^(3*s*s)-1:=rfl;obtain ⟨AL,hAL⟩:∃ AL,AL=2^(3*s*s)-1:=⟨_,rfl⟩;rw [hlf,<-hAL] at HC;rw [<- hAL] at HAl;obtain ⟨CV,hCV⟩:∃ CV,CV=cv s gi rs (s*s) []:=⟨_,rfl⟩;rw [<- hCV] at HC ⊢
 show Calls Tryz.prog 123 #[.func (.yield l) #[] #[],.pointer (some ⟨PB,0,none⟩)] W _
 have HPB:=Lib.hid (fun X (hb:Below W.heap.size W X)=>w1.below hPB hb);obtain ⟨b0,b1,b2⟩:=id w1;clear hJb hJs hY h0 w0 hAL hCV hlf hok hg hr hv hT w1 hn
 go_enter Tryz.func123,Tryz.ntmps123
 go_wp2_with (go_at_call 124;refine HSe.out.mono ?_;rintro e X1 ⟨G,OB,RB,L,rfl,hrest⟩;have HRest:=Lib.hid hrest;clear hrest;unfold sVal)
 obtain ⟨hM,hLX,hSR,ho,hb1⟩:=HRest.out;have hbd:Below X1.heap.size X1 (X1.alloc (.cells #[.slice (some ⟨G,0,none⟩) n n,.slice (some ⟨OB,0,none⟩) n n,.slice (some ⟨RB,0,none⟩) n n] 133)):=(Below.refl _ _).alloc (Nat.le_refl _) _;have HCX:=Lib.hid (fun X' (hb':Below X1.heap.size X1 X')=>HC.out G OB RB L X' hM (Nat.le_trans hLX hb'.size) (hSR.midx (midx_below (lo:=W.heap.size) (G:=G) hb') ⟨hM.2.1,hM.2.2.2.2.2.1⟩ ⟨hM.2.2.1,hM.2.2.2.2.2.2.1⟩ hM.2.2.2.1 hM.2.2.2.2.1) (ho.below hb') (hb1.trans (hb'.mono hb1.size)));unfold sVal at HCX;obtain ⟨c0,c1,c2⟩:=sbox_new X1 G OB RB n 133
 obtain ⟨p0,p1,p2⟩:=HPB.out _ (hb1.trans (hbd.mono hb1.size));clear hSR ho hM hLX HC HSe;clear hb1
 go_wp2
 go_region_with (first
  |(go_at_call 126;refine (HAl.out _).mono ?_;rintro e wq ⟨rfl,rfl⟩)
  |(go_at_call 125;refine (HCX.out _ (by first|exact hbd|exact hbd.drew)).mono ?_;rintro e Y ⟨⟨v,rfl⟩,hYY⟩))
 all_goals
  go_end0
  exact ⟨⟨_,rfl⟩,hYY⟩
theorem solutions_any (s n:Nat) (Ag:Option Addr) (cg:Nat) (Ar:Option Addr) (nr cr:Nat) (w:World):
 Calls Tryz.prog 69 #[.agg #[.int .i64 s,.slice Ag n cg,.slice Ar nr cr]] w fun e w'=>∃ PB,e=.returned (.func (.func 123) #[] #[.pointer (some ⟨PB,0,none⟩)])/\w.heap.size<=PB/\PBox w' PB s Ag n cg Ar nr cr/\Below w.heap.size w w':=by
 have hx0:=pbox_new w s Ag n cg Ar nr cr 26;have hb0:Below w.heap.size w (w.alloc (.cells #[.int .i64 s,.slice Ag n cg,.slice Ar nr cr] 26)):=(Below.refl _ _).alloc (Nat.le_refl _) _
 go_enter Tryz.func69,Tryz.ntmps69
 go_wp2
 go_ret
 exact ⟨w.heap.size,rfl,Nat.le_refl _,hx0,hb0⟩
def sfL (s:Int) (n:Nat) (gi:List Int) (rs:List RuleM):List Int:=(allS s 1 n gi rs).getD 0 []
def sfB (s:Int) (n:Nat) (gi:List Int) (rs:List RuleM):Bool:= !(allS s 1 n gi rs).isEmpty
def sqL (s:Nat):List (List Int):=sols s (s*s) (zeros (s*s)) 0
theorem clash_ext {s:Nat} {g y:List Int} (hs:s∈[2,3,4]) (h:∀ i,i<s*s->nth g i=nth y i\/nth g i=0) (hc:clash g s=true):clash y s=true:=by
 obtain ⟨i,j,hi,hj,ha,e,h0⟩:=(clash_iff hs).1 hc;have ej:nth g j=nth y j:=(h j hj).resolve_right (by omega);have ei:nth g i=nth y i:=(h i hi).resolve_right (by omega);exact (clash_iff hs).2 ⟨i,j,hi,hj,ha,by rw [<- ei,<-ej,e],by rw [<- ej];exact h0⟩
theorem sols_enS {s:Nat} (hs:s∈[2,3,4]):∀ (f p:Nat) (z:List Int),p+f=s*s->z.length=s*s->0<f->(∀ i,p<=i->nth z i=0)->sols s f z p=(enS s f z p).filter fun y=> !clash y s:=by
 intro f
 induction f with
 |zero=>intro p z _ _ h;omega
 |succ f ih=>
  intro p z hp hl _ hz
  have hs4:s<=4:=by simp at hs;omega
  simp only [sols,enS];rw [if_neg (by rw [hz p (Nat.le_refl _)];omega),List.filter_flatMap,Int.toNat_natCast];unfold rep
  have one:∀ v:Nat,(if clash (z.set p (v:Int)) s=true then [] else sols s f (z.set p (v:Int)) (p+1))=(enS s f (z.set p (v:Int)) (p+1)).filter fun y=> !clash y s:=fun v=>by
   have hzs:∀ i,p+1<=i->nth (z.set p (v:Int)) i=0:=fun i hi=>by
    have:nth (z.set p (v:Int)) i=nth z i:=(by simp only [nth,List.getD_eq_getElem?_getD,List.getElem?_set];rw [if_neg (by omega)]);rw [this];exact hz i (by omega)
   by_cases hc:clash (z.set p (v:Int)) s=true
   ·rw [if_pos hc]
    symm
    rw [List.filter_eq_nil_iff];intro y hy hn;obtain ⟨a,b,c⟩:=enS_in f _ _ y hy (by rw [List.length_set];omega)
    have:=clash_ext (g:=z.set p (v:Int)) (y:=y) hs (fun i hi=>by
     by_cases h:i<p+1
     ·exact .inl (b i h).symm
     ·exact .inr (hzs i (by omega))) hc
    rw [this] at hn;cases hn
   ·rw [if_neg hc]
    by_cases hf:0<f
    ·exact ih (p+1) _ (by omega) (by rw [List.length_set];exact hl) hf hzs
    ·obtain rfl:f=0:=by omega
     simp only [sols,enS];rw [List.filter_cons_of_pos (by simpa using hc),List.filter_nil]
  have key:∀ r v,solsFrom (fun ys=>sols s f ys (p+1)) z s p r v=(seqN v r).flatMap fun x=>(enS s f (z.set p x) (p+1)).filter fun y=> !clash y s:=by
   intro r
   induction r with
   |zero=>intro v;rfl
   |succ r ihr=>
    intro v;simp only [solsFrom,seqN,List.flatMap_cons];rw [ihr (v+1),one v]
  exact key s 1
theorem sqL_is {s:Nat} (hs:s∈[2,3,4]):sqL s=(enS s (s*s) (zeros (s*s)) 0).filter fun y=> !clash y s:=
 sols_enS hs (s*s) 0 _ (by omega) (zeros_length _) (by simp at hs;rcases hs with rfl|rfl|rfl<;>decide) (fun i _=>zeros_nth _ i)
theorem flat_one {α β:Type} {L:List α} {f:α->List β} {a:α} (hn:L.Nodup) (ha:a∈L) (h:∀ x∈L,x≠a->f x=[]):L.flatMap f=f a:=by
 induction L with
 |nil=>cases ha
 |cons b L ih=>
  rw [List.flatMap_cons];rw [List.nodup_cons] at hn
  rcases List.mem_cons.1 ha with rfl|h2
  ·rw [flat_none (fun x hx=>h x (List.mem_cons_of_mem _ hx) (fun e=>hn.1 (by rw [<- e];exact hx))),List.append_nil]
  ·rw [h b (List.mem_cons_self ..) (fun e=>hn.1 (by rw [e];exact h2)),List.nil_append];exact ih hn.2 h2 (fun x hx=>h x (List.mem_cons_of_mem _ hx))
theorem seqN_nodup:∀ r v,(seqN v r).Nodup:=by
 intro r
 induction r with
 |zero=>intro v;simp [seqN]
 |succ r ih=>
  intro v;simp only [seqN,List.nodup_cons];refine ⟨fun h=>?_,ih (v+1)⟩;obtain ⟨u,e,h1,_⟩:=seqN_mem.1 h;omega
def agF (g y:List Int) (p m:Nat):Bool:=(List.range m).all fun i=>decide (i<p)|| !(decide (0<nth g i))||(nth y i==nth g i)
theorem agF_iff {g y:List Int} {p m:Nat}:agF g y p m=true↔∀ i,p<=i->i<m->0<nth g i->nth y i=nth g i:=by
 simp only [agF,List.all_eq_true,List.mem_range,Bool.or_eq_true,decide_eq_true_eq,Bool.not_eq_true',decide_eq_false_iff_not,beq_iff_eq]
 constructor
 ·intro h i h1 h2 h3
  rcases h i h2 with (h|h)|h
  ·omega
  ·exact absurd h3 h
  ·exact h
 ·intro h i hi
  by_cases h1:i<p
  ·exact .inl (.inl h1)
  ·by_cases h2:0<nth g i
   ·exact .inr (h i (by omega) hi h2)
   ·exact .inl (.inr h2)
theorem enS_agree {s:Nat}:∀ (f p:Nat) (g z:List Int),p+f=z.length->g.length=z.length->(∀ i,i<p->nth g i=nth z i)->(∀ i,p<=i->nth z i=0)->(∀ i,p<=i->i<p+f->0<nth g i->nth g i∈rep s)->enS s f g p=(enS s f z p).filter fun y=>agF g y p (p+f):=by
 intro f
 induction f with
 |zero=>
  intro p g z hp hl hpre hz hin;obtain rfl:g=z:=ext_nth hl (fun k hk=>hpre k (by omega));simp only [enS];rw [List.filter_cons_of_pos (by exact agF_iff.2 (fun i h1 h2=>by omega)),List.filter_nil]
 |succ f ih=>
  intro p g z hp hl hpre hz hin
  have hset:∀ (x:Int) (i:Nat),p+1<=i->nth (z.set p x) i=0:=fun x i hi=>by
   rw [nth_set (by omega),if_neg (by omega)];exact hz i (by omega)
  have hq:∀ (x:Int) y,y∈enS s f (z.set p x) (p+1)->nth y p=x:=fun x y hy=>by
   obtain ⟨_,b,_⟩:=enS_in f _ _ y hy (by rw [List.length_set];omega);rw [b p (by omega),nth_set (by omega),if_pos rfl]
  simp only [enS];rw [if_neg (show ¬ 0<nth z p by rw [hz p (Nat.le_refl _)];omega),List.filter_flatMap]
  by_cases h0:0<nth g p
  ·rw [if_pos h0,flat_one (a:=nth g p) (show (rep s).Nodup from seqN_nodup s 1) (hin p (Nat.le_refl _) (by omega) h0)]
   ·rw [ih (p+1) g (z.set p (nth g p)) (by rw [List.length_set];omega) (by rw [List.length_set];exact hl) (fun i hi=>by
      rw [nth_set (by omega)]
      by_cases e:p=i
      ·subst e;rw [if_pos rfl]
      ·rw [if_neg e];exact hpre i (by omega)) (hset _) (fun i h1 h2=>hin i (by omega) (by omega))]
    apply List.filter_congr
    intro y hy;rw [Bool.eq_iff_iff,agF_iff,agF_iff]
    constructor
    ·intro h i h1 h2 h3
     by_cases e:i=p
     ·subst e;exact hq _ y hy
     ·exact h i (by omega) (by omega) h3
    ·intro h i h1 h2 h3;exact h i (by omega) (by omega) h3
   ·intro x _ hne;rw [List.filter_eq_nil_iff];intro y hy hag;have:=agF_iff.1 hag p (Nat.le_refl _) (by omega) h0;rw [hq x y hy] at this;exact hne this
  ·rw [if_neg h0]
   apply flat_congr
   intro x hx
   rw [ih (p+1) (g.set p x) (z.set p x) (by rw [List.length_set];omega) (by rw [List.length_set,List.length_set];exact hl) (fun i hi=>by
       rw [nth_set (by omega),nth_set (by omega)]
       split
       ·rfl
       ·exact hpre i (by omega)) (hset x) (fun i h1 h2 h3=>by
        rw [nth_set (by omega),if_neg (by omega)] at h3 ⊢
        exact hin i (by omega) (by omega) h3)]
   apply List.filter_congr
   intro y hy;rw [Bool.eq_iff_iff,agF_iff,agF_iff]
   constructor
   ·intro h i h1 h2 h3
    by_cases e:i=p
    ·subst e;exact absurd h3 h0
    ·have:=h i (by omega) (by omega) (by rw [nth_set (by omega),if_neg (by omega)];exact h3);rw [nth_set (by omega),if_neg (by omega)] at this;exact this
   ·intro h i h1 h2 h3;rw [nth_set (by omega),if_neg (by omega)] at h3 ⊢;exact h i (by omega) (by omega) h3
theorem solL_is {s:Nat} {gi:List Int} {rs:List RuleM} (hv:pvB s gi rs=true):solL s gi rs=(sqL s).filter (psB s gi rs):=by
 obtain ⟨t,ht,hs,hn,_,hok⟩:=pv_grid hv rfl
 obtain rfl:s=t:=by omega
 obtain ⟨hgi,_,hr⟩:=pv_gv hv
 have hl:gi.length=s*s:=by
  simp at hs
  rcases hs with rfl|rfl|rfl<;>omega
 rw [hl] at hok;have hzl:=zeros_length (s*s);unfold solL
 rw [hl,sqL_is hs,enS_agree (s*s) 0 gi (zeros (s*s)) (by omega) (by omega) (fun i hi=>absurd hi (by omega)) (fun i _=>zeros_nth _ i) (fun i _ h2 h3=>by
   have:=hok i (by omega)
   exact rep_mem.2 ⟨(nth gi i).toNat,by omega,by omega,by omega⟩),List.filter_filter,List.filter_filter]
 apply List.filter_congr
 intro y hy;obtain ⟨a,_,c⟩:=enS_in _ _ _ y hy (by omega);rw [hzl] at a c
 have hfull:∀ i,i<s*s->1<=nth y i/\nth y i<=(s:Int):=fun i hi=>by
  obtain ⟨u,e,u1,u2⟩:=rep_mem.1 ((c i (by omega) hi).2 (by rw [zeros_nth];omega));omega
 have hgy:gv y s=true:=okAll_gv' hs a (fun i hi=>by have:=hfull i hi;omega)
 have hps:psB s gi rs y=fpB s gi rs y:=by
  unfold psB
  have:gf y s=(y.length:Int):=by
   unfold gf;rw [if_pos hgy];have:=cnz_full.2 (fun k (hk:k<y.length)=>show nth y k≠0 by have:=hfull k (by omega);omega);rw [this]
  rw [this];simp
 rw [hps,Bool.eq_iff_iff,Bool.and_eq_true,Bool.and_eq_true,agF_iff,fp_parts];simp only [fitB,Bool.and_eq_true,List.all_eq_true,List.mem_range,Bool.not_eq_true']
 constructor
 ·rintro ⟨⟨⟨f1,f2⟩,f3⟩,ag⟩;exact ⟨⟨hv,hgy,f1,f2,f3⟩,f3⟩
 ·rintro ⟨⟨_,_,f1,f2,f3⟩,_⟩;refine ⟨⟨⟨f1,f2⟩,f3⟩,fun i h1 h2 h3=>?_⟩;have:=f1 i (by omega);have hy1:=hfull i (by omega);unfold giveOk at this;simp only [Bool.not_eq_true',Bool.and_eq_false_iff,decide_eq_false_iff_not,bne_eq_false_iff_eq] at this
  rcases this with (h|h)|h
  ·exact absurd h3 h
  ·omega
  ·exact h
end Go.Proofs.YtkeoflnmbcdmfaaGreatDoor
namespace Go.Proofs.YtkeoflnmbcdmfaaGreatDoor
open Go.ChangeShapes Go.WideShapes Go.ChangeAt Go.RowKit Go.Shelf
attribute [local go_sem] Oper.semAt_some
theorem RdRc.more {w:World} {B B':Nat} {A:Option Addr} {n:Nat} {rs:List RuleM} (h:RdRc w B A n rs) (hB:B<=B'):RdRc w B' A n rs:=by
 refine ⟨h.1,fun hn=>?_⟩;obtain ⟨b,off,e,hb,hc⟩:=h.2 hn
 exact ⟨b,off,e,Nat.lt_of_lt_of_le hb hB,fun i hi=>by
  obtain ⟨A',c',e0,e1,e2,e3,e4⟩:=hc i hi
  exact ⟨A',c',e0,e1,e2,e3.more hB,e4⟩⟩
theorem allS_cv {s:Nat} {gi:List Int} {rs:List RuleM} {most n:Nat} (hl:gi.length=n) (hv:pvB s gi rs=true) (h0:0<most) (hn:n=s*s):allS s most n gi rs=(cv s gi rs (s*s) []).take most:=by
 rw [allS_is hl hv h0,<-cv_is hv,hl,hn]
theorem sf_cons {s:Nat} {gi:List Int} {rs:List RuleM} {n:Nat} {y:List Int} {zs:List (List Int)} (hl:gi.length=n) (hv:pvB s gi rs=true) (hn:n=s*s) (h:cv s gi rs (s*s) []=y::zs):sfL s n gi rs=y/\sfB s n gi rs=true:=by
 unfold sfL sfB;rw [allS_cv hl hv (by omega) hn,h];exact ⟨rfl,rfl⟩
theorem sf_nil {s:Nat} {gi:List Int} {rs:List RuleM} {n:Nat} (hl:gi.length=n) (hv:pvB s gi rs=true) (hn:n=s*s) (h:cv s gi rs (s*s) []=[]):sfL s n gi rs=[]/\sfB s n gi rs=false:=by
 unfold sfL sfB;rw [allS_cv hl hv (by omega) hn,h];exact ⟨rfl,rfl⟩
theorem allS_none {s:Int} {gi:List Int} {rs:List RuleM} {most n:Nat} (hv:pvB s gi rs=false):allS s most n gi rs=[]:=by
 unfold allS fpB;rw [hv];rfl
theorem cv_len {s:Nat} {gi:List Int} {rs:List RuleM} {n:Nat} {y:List Int} (hl:gi.length=n) (hv:pvB s gi rs=true) (hn:n=s*s) (hs:s∈[2,3,4]) (h:y∈cv s gi rs (s*s) []):y.length=n:=by
 have e:cv s gi rs (s*s) []=solL s gi rs:=by rw [<- hn,<-hl];exact cv_is hv
 rw [e,solL_is hv] at h;have h1:=(List.mem_filter.1 h).2;unfold psB fpB at h1;simp only [Bool.and_eq_true] at h1;have:=gv_len h1.1.1.2
 simp at hs
 rcases hs with rfl|rfl|rfl<;>omega
theorem below_put_at {N l:Nat} {X:World} (o':Obj) (hN:N<=l) (hl:l<X.heap.size):Below N X (X.putObj l o'):=
 below_put o' hN (Array.getElem?_eq_getElem hl)
theorem Ow.same_own {w w':World} {lo n c:Nat} {A:Option Addr} {xs:List Int} (h:Ow w lo A n c xs) (hn:0<n) (hs:∀ g,(Value.slice A n c).ownBlock=some g->w'.heap[g]? =w.heap[g]?):Ow w' lo A n c xs:=by
 obtain ⟨g,rfl,_,_⟩:=h.form hn;exact h.same (hs g rfl)
theorem cell_none_of_deferred {W:World} {D i:Nat} {o:Option (List Deferred)} (h:W.heap[D]? =some (.deferred o)):W.cell? ⟨D,i,none⟩=none:=by
 unfold World.cell?
 simp [h]
theorem sf_results (tm:Array Value) (X:World) (g h:Nat) (A:Option Addr) (m c:Nat) (b:Bool) (h2:tm[2]?.getD undef=.pointer (some ⟨g,0,none⟩)) (h3:tm[3]?.getD undef=.pointer (some ⟨h,0,none⟩)) (c1:X.cell? ⟨g,0,none⟩=some (.slice A m c)) (c2:X.cell? ⟨h,0,none⟩=some (.bool b)):(results Tryz.f22 tm).run Tryz.prog X=.ok (.tuple #[.slice A m c,.bool b]) X:=by
 simp [results,Tryz.f22,go_sem,h2,h3,c1,c2]
set_option maxHeartbeats 1000000 in
theorem implSolveFirst (s:Int) (Ag:Option Addr) (n cg Bg:Nat) (gi:List Int) (Ar:Option Addr) (nr cr Br:Nat) (rs:List RuleM) (w:World) (hp:PGc w s Ag n cg Bg gi Ar nr cr Br rs) (hT:Tz w):
 Calls Tryz.prog 22 #[.agg #[.int .i64 s,.slice Ag n cg,.slice Ar nr cr]] w fun e w'=>∃ A m c,e=.returned (.tuple #[.slice A m c,.bool (sfB s n gi rs)])/\(sfB s n gi rs=true->m=n)/\Ow w' w.heap.size A m c (sfL s n gi rs)/\Below w.heap.size w w':=by
 have hx0:=pbox_new w s Ag n cg Ar nr cr 26;obtain ⟨W1,hW1⟩:∃ W1,w.alloc (.cells #[.int .i64 s,.slice Ag n cg,.slice Ar nr cr] 26)=W1:=⟨_,rfl⟩;rw [hW1] at hx0
 have hb1:Below w.heap.size w W1:=by rw [<- hW1];exact (Below.refl _ _).alloc (Nat.le_refl _) _
 have hs1:W1.heap.size=w.heap.size+1:=by rw [<- hW1];simp
 obtain ⟨W2,hW2⟩:∃ W2,W1.alloc (.cells #[.slice none 0 0] 23)=W2:=⟨_,rfl⟩
 have hb2:Below W1.heap.size W1 W2:=by rw [<- hW2];exact (Below.refl _ _).alloc (Nat.le_refl _) _
 have hs2:W2.heap.size=w.heap.size+1+1:=by rw [<- hW2];simp [hs1]
 have hr2:W2.heap[w.heap.size+1]? =some (.cells #[.slice none 0 0] 23):=by rw [<- hW2,<-hs1];exact heap_alloc_new _ _
 obtain ⟨W3,hW3⟩:∃ W3,W2.alloc (.cells #[.bool false] 4)=W3:=⟨_,rfl⟩
 have hb3:Below W2.heap.size W2 W3:=by rw [<- hW3];exact (Below.refl _ _).alloc (Nat.le_refl _) _
 have hs3:W3.heap.size=w.heap.size+1+1+1:=by rw [<- hW3];simp [hs2]
 have hr3:W3.heap[w.heap.size+1]? =some (.cells #[.slice none 0 0] 23):=(hb3.block _ (by omega)).trans hr2
 have hq3:W3.heap[w.heap.size+1+1]? =some (.cells #[.bool false] 4):=by rw [<- hW3,<-hs2];exact heap_alloc_new _ _
 have hx3:=(hx0.below (by omega) hb2).below (by omega) hb3;have hbW:Below w.heap.size w W3:=(hb1.trans (hb2.mono (by omega))).trans (hb3.mono (by omega));have HV:=Lib.hid (valid_any s Ag n cg Bg gi Ar nr cr Br rs W3 (hp.below hbW));have HB3:=Lib.hid hbW;have HX3:=Lib.hid hx3;have HR3:=Lib.hid (And.intro hr3 hq3);obtain ⟨z0,z1,z2⟩:=id hx3;clear hb1 hb2 hb3 hr2 hr3 hq3 hx0 hx3 hbW;refine (callsIn_wide (n:=9)).1 ?_;refine callsIn_of_wp_marks Tryz.func22 rfl trivial ?_ rfl;simp only [Tryz.ntmps22,List.size_toArray,List.length_cons,List.length_nil,Nat.reduceAdd,Nat.reduceSub,Array.replicate_succ,Array.replicate_zero,List.push_toArray,List.append_toArray,List.nil_append,List.cons_append]
 cases hv:pvB s gi rs
 ·have H1:sfB s n gi rs=false/\sfL s n gi rs=[]:=by unfold sfB sfL;rw [allS_none hv];exact ⟨rfl,rfl⟩
  rw [H1.1,H1.2];clear H1
  gi_wp2_with ((try refine ⟨trivial,?_⟩);gi_at_call 60;refine (callsIn_wide.2 HV.out).mono ?_;rintro e w4 ⟨rfl,hb4⟩;rw [hv];obtain ⟨hr3,hq3⟩:=HR3.out;have hr4:=(hb4.block _ (by omega)).trans hr3;have hq4:=(hb4.block _ (by omega)).trans hq3;have hcr:=cell_of_row _ _ 0 _ _ (0,0) hr4;have hfr:=frozen_of_row _ _ 0 _ _ hr4;have hcq:=cell_of_row _ _ 0 _ _ (0,0) hq4;have hfq:=frozen_of_row _ _ 0 _ _ hq4)
  have e1:=heap_setCell_same w4 (w.heap.size+1) 0 _ _ (.slice none 0 0) hr4;have e2:=(heap_setCell_other w4 ⟨w.heap.size+1,0,none⟩ (w.heap.size+1+1) (.slice none 0 0) (fun e=>by dsimp only at e;omega)).trans hq4;have e3:=(heap_setCell_other _ ⟨w.heap.size+1+1,0,none⟩ (w.heap.size+1) (.bool false) (fun e=>by dsimp only at e;omega)).trans e1;have e4:=heap_setCell_same _ (w.heap.size+1+1) 0 _ _ (.bool false) e2;exact ⟨_,sf_results _ _ (w.heap.size+1) (w.heap.size+1+1) none 0 0 false rfl rfl (cell_of_row _ _ 0 _ _ (0,0) e3) (cell_of_row _ _ 0 _ _ (0,0) e4),none,0,0,rfl,(fun h=>by cases h),Ow.nil_ _ _,((step HB3.out hb4).setCell (p:=⟨w.heap.size+1,0,none⟩) (by show w.heap.size<=w.heap.size+1;omega) _).setCell (p:=⟨w.heap.size+1+1,0,none⟩) (by show w.heap.size<=w.heap.size+1+1;omega) _⟩
 ·obtain ⟨t,rfl,hs,hnn,hn16,hok⟩:=pv_grid hv hp.g.1
  have hn:n=t*t:=by simp at hs;rcases hs with rfl|rfl|rfl<;>omega
  have hn0:0<n:=by simp at hs;rcases hs with rfl|rfl|rfl<;>omega
  have hgl:=hp.g.1
  have hmr:nr<=20:=by have:=(pv_gv hv).2.1;have:=hp.r.1;omega
  have HG:=Lib.hid (hp.g.more hp.gB);have HR:=Lib.hid (hp.r.more hp.rB);have HT:=Lib.hid (fun X (hb:Below w.heap.size w X)=>hT.below hT.lt hb);have HN:=Lib.hid hn;have HV2:=Lib.hid hv;have Hgl:=Lib.hid hgl;clear hok hnn hn hgl hp hT
  gi_wp2_with (first
   |((try refine ⟨trivial,?_⟩);gi_at_call 60;refine (callsIn_wide.2 HV.out).mono ?_;rintro e w4 ⟨rfl,hb4⟩;rw [hv];have hx4:=HX3.out.below (show w.heap.size<W3.heap.size by omega) hb4;obtain ⟨y0,y1,y2⟩:=id hx4)
   |((try refine ⟨trivial,?_⟩);gi_at_call 69;refine (callsIn_wide.2 (solutions_any t n Ag cg Ar nr cr w4)).mono ?_;rintro e w5 ⟨PB,rfl,hPl,hpb,hb5⟩))
  have h45:=hb5.size;have h34:=hb4.size;have hb35:Below W3.heap.size W3 w5:=hb4.trans (hb5.mono h34);have hb05:Below w.heap.size w w5:=HB3.out.trans (hb35.mono (by omega));obtain ⟨hr3,hq3⟩:=HR3.out;have hr5:=(hb35.block _ (by omega)).trans hr3;have hq5:=(hb35.block _ (by omega)).trans hq3;have hPB:=cell_lt hpb.1
  have d1:w.heap.size+1+1<w5.heap.size:=by omega
  clear z0 z1 z2 y0 y1 y2 hx4 hb4 hb5 hb35 hr3 hq3 hW1 hW2 hW3 hs1 hs2 hs3 h45 h34 hPl hv HV
  refine range_twoP 9 (q:=4) (by rfl) (enters_of Tryz.func123 (by kernel_rfl) rfl) (sols_seq w w.heap.size PB t n Ag cg gi Ar nr cr rs (Nat.le_refl _) hs HN.out HG.out HR.out hmr HV2.out HT.out)
   (fun pre X=>pre=[]/\SBase w w.heap.size PB t Ag n cg Ar nr cr X/\X.heap[w.heap.size+1]? =some (.cells #[.slice none 0 0] 23)/\X.heap[w.heap.size+1+1]? =some (.cells #[.bool false] 4))
   (fun cc X=>cc=.ret/\∃ y zs A c,cv t gi rs (t*t) []=y::zs/\Below w.heap.size w X/\X.heap[w.heap.size+1]? =some (.cells #[.slice A n c] 23)/\Ow X w.heap.size A n c y/\X.heap[w.heap.size+1+1]? =some (.cells #[.bool true] 4)/\∀ g,(Value.slice A n c).ownBlock=some g->w5.heap.size+1<g)
   (fun pre X h=>h.2.1)
   (fun pre X Y h hb=>⟨h.1,⟨h.2.1.1.trans (hb.mono (by omega)),h.2.1.2.below hPB hb⟩,(hb.block _ (by omega)).trans h.2.2.1,(hb.block _ d1).trans h.2.2.2⟩)
   (fun cc X o h hX=>by
     obtain ⟨h1,y,zs,A,c,h2,h3,h4,h5,h6,h7⟩:=h;refine ⟨h1,y,zs,A,c,h2,h3.trans (below_put_at _ (by omega) hX),(World.putObj_heap_other (by omega)).trans h4,?_,(World.putObj_heap_other (by omega)).trans h6,h7⟩
     exact h5.same_own hn0 (fun g e=>World.putObj_heap_other (by have:=h7 g e;omega)))
   ⟨rfl,⟨hb05,hpb⟩,hr5,hq5⟩ ?assign ?body ?done ?stop
  case assign=>
   intro l v W K hK;simp only [List.setIfInBounds_toArray,List.set_cons_zero,List.set_cons_succ] at hK ⊢
   gi_wp2
   exact hK
  case body=>
   rintro l pre x X b n' c' ⟨rfl,⟨hBX,hpX⟩,hrX,hqX⟩ ⟨zs,hzs⟩ hbb hXs hrd;have hxl:=cv_len Hgl.out HV2.out HN.out hs (show x∈cv t gi rs (t*t) [] by rw [hzs];simp)
   obtain rfl:n'=n:=by rw [<- hrd.1];exact hxl
   have HCl:=Lib.hid (clone_any (some ⟨b,0,none⟩) n' c' X.heap.size x X hrd (Nat.le_refl _) hn0 (by omega));have hXl:w.heap.size+1+1<X.heap.size:=(Array.getElem?_eq_some_iff.1 hqX).1;have Hzs:=Lib.hid hzs;have HBX:=Lib.hid hBX;have Hrd:=Lib.hid hrd;clear hzs hxl hpX hBX hrd;simp only [List.setIfInBounds_toArray,List.set_cons_zero,List.set_cons_succ]
   gi_wp2_with ((try refine ⟨trivial,?_⟩);gi_at_call 70;refine (callsIn_wide.2 HCl.out).mono ?_;rintro e w6 ⟨A6,c6,rfl,ho6,hb6⟩;have hr6:=(hb6.block _ (by omega)).trans hrX;have hq6:=(hb6.block _ hXl).trans hqX;have hcr:=cell_of_row _ _ 0 _ _ (0,0) hr6;have hfr:=frozen_of_row _ _ 0 _ _ hr6;have hcq:=cell_of_row _ _ 0 _ _ (0,0) hq6;have hfq:=frozen_of_row _ _ 0 _ _ hq6)
   obtain ⟨g6,rfl,hg6,hgw6⟩:=ho6.form hn0;have e1:=heap_setCell_same w6 (w.heap.size+1) 0 _ _ (.slice (some ⟨g6,0,none⟩) n' c6) hr6;have e2:=(heap_setCell_other w6 ⟨w.heap.size+1,0,none⟩ (w.heap.size+1+1) (.slice (some ⟨g6,0,none⟩) n' c6) (fun e=>by dsimp only at e;omega)).trans hq6;have e3:=(heap_setCell_other _ ⟨w.heap.size+1+1,0,none⟩ (w.heap.size+1) (.bool true) (fun e=>by dsimp only at e;omega)).trans e1;have e4:=heap_setCell_same _ (w.heap.size+1+1) 0 _ _ (.bool true) e2;have hX6:=hb6.size
   have hoE:Ow ((w6.setCell ⟨w.heap.size+1,0,none⟩ (.slice (some ⟨g6,0,none⟩) n' c6)).setCell ⟨w.heap.size+1+1,0,none⟩ (.bool true)) w.heap.size (some ⟨g6,0,none⟩) n' c6 x:=
    (ho6.mono (by omega)).same ((heap_setCell_other _ ⟨w.heap.size+1+1,0,none⟩ g6 (.bool true) (fun e=>by dsimp only at e;omega)).trans (heap_setCell_other w6 ⟨w.heap.size+1,0,none⟩ g6 (.slice (some ⟨g6,0,none⟩) n' c6) (fun e=>by dsimp only at e;omega)))
   refine ⟨(Mid.of_below hb6).trans ((Mid.setCell _ _ _ _ _ (by omega)).trans (Mid.setCell _ _ _ _ _ (by omega))),rfl,x,zs,_,c6,Hzs.out,((HBX.out.trans (hb6.mono (by omega))).setCell (p:=⟨w.heap.size+1,0,none⟩) (by show w.heap.size<=w.heap.size+1;omega) _).setCell (p:=⟨w.heap.size+1+1,0,none⟩) (by show w.heap.size<=w.heap.size+1+1;omega) _,e3,hoE,e4,fun g e=>?_⟩;have e:g6=g:=Option.some.inj e;omega
  case done=>
   rintro D W hD ⟨he,⟨hBX,_⟩,hrX,hqX⟩ hK;obtain ⟨q1,q2⟩:=sf_nil Hgl.out HV2.out HN.out he;have hcr:=cell_of_row _ _ 0 _ _ (0,0) hrX;have hfr:=frozen_of_row _ _ 0 _ _ hrX;have hcq:=cell_of_row _ _ 0 _ _ (0,0) hqX;have hfq:=frozen_of_row _ _ 0 _ _ hqX
   gi_wp2
   have e1:=heap_setCell_same W (w.heap.size+1) 0 _ _ (.slice none 0 0) hrX;have e2:=(heap_setCell_other W ⟨w.heap.size+1,0,none⟩ (w.heap.size+1+1) (.slice none 0 0) (fun e=>by dsimp only at e;omega)).trans hqX;have e3:=(heap_setCell_other _ ⟨w.heap.size+1+1,0,none⟩ (w.heap.size+1) (.bool false) (fun e=>by dsimp only at e;omega)).trans e1;have e4:=heap_setCell_same _ (w.heap.size+1+1) 0 _ _ (.bool false) e2;have e5:=(heap_setCell_other _ ⟨w.heap.size+1+1,0,none⟩ D (.bool false) (fun e=>by dsimp only at e;omega)).trans ((heap_setCell_other W ⟨w.heap.size+1,0,none⟩ D (.slice none 0 0) (fun e=>by dsimp only at e;omega)).trans hK)
   have hbE:=((hBX.setCell (p:=⟨w.heap.size+1,0,none⟩) (by show w.heap.size<=w.heap.size+1;omega) (.slice none 0 0)).setCell (p:=⟨w.heap.size+1+1,0,none⟩) (by show w.heap.size<=w.heap.size+1+1;omega) (.bool false)).trans (below_put (.deferred none) (show w.heap.size<=D by omega) e5);refine ⟨by simp,.inl ⟨_,_,rfl,run_takeDeferred e5,?_⟩⟩;refine ⟨_,sf_results _ _ (w.heap.size+1) (w.heap.size+1+1) none 0 0 false rfl rfl (cell_of_row _ _ 0 _ _ (0,0) ((World.putObj_heap_other (by omega)).trans e3)) (cell_of_row _ _ 0 _ _ (0,0) ((World.putObj_heap_other (by omega)).trans e4)),?_⟩;exact ⟨none,0,0,rfl,Ow.nil_ _ _,hbE⟩
  case stop=>
   rintro D cc W hD ⟨rfl,y,zs,A,c,hc,hBX,hrX,hoX,hqX,hlo⟩ hK;obtain ⟨q1,q2⟩:=sf_cons Hgl.out HV2.out HN.out hc
   gi_wp2
   refine ⟨by simp,.inl ⟨_,_,rfl,run_takeDeferred hK,?_⟩⟩
   have hgD:∀ g,(Value.slice A n c).ownBlock=some g->g≠D:=fun g e e2=>by
    subst e2;obtain ⟨g',e3,_,_⟩:=hoX.form hn0;subst e3;obtain ⟨h1,h2⟩:=hoX.cell (show 0<n from hn0)
    injection e with e
    subst e;rw [cell_none_of_deferred hK] at h1;cases h1
   refine ⟨_,sf_results _ _ (w.heap.size+1) (w.heap.size+1+1) A n c true rfl rfl (cell_of_row _ _ 0 _ _ (0,0) ((World.putObj_heap_other (by omega)).trans hrX)) (cell_of_row _ _ 0 _ _ (0,0) ((World.putObj_heap_other (by omega)).trans hqX)),?_⟩;exact ⟨A,n,c,rfl,rfl,hoX.same_own hn0 (fun g e=>World.putObj_heap_other (fun e2=>hgD g e e2)),hBX.trans (below_put _ (by omega) hK)⟩
end Go.Proofs.YtkeoflnmbcdmfaaGreatDoor
namespace Go.Proofs.YtkeoflnmbcdmfaaGreatDoor
open Go.ChangeShapes Go.WideShapes Go.ChangeAt Go.RowKit
attribute [local go_sem] Oper.semAt_some
theorem below_putC {N l:Nat} {X:World} (o':Obj) (hN:N<=l) (hl:l<X.heap.size):Below N X (X.putObj l o'):=
 below_put (o:=X.heap[l]) o' hN (Array.getElem?_eq_getElem hl)
set_option maxHeartbeats 2000000 in
theorem countUpTo_any {gf:Nat} {lb:Array Value} {Base:World->Prop} {ways:List (List Int)} (M:Nat) (w:World) (hsq:SeqP Tryz.prog gf lb Base ways) (eg:∀ args w,(callFunc gf args).run Tryz.prog w=.ok (.enter gf args) w) (hBs:∀ X,Below w.heap.size w X->Base X) (hM1:0<M) (hM6:M<=600):
 Calls Tryz.prog 114 #[.func (.func gf) #[] lb,.int .i64 (M:Nat)] w fun e w'=>e=.returned (.int .i64 ((ways.take M).length:Nat))/\Below w.heap.size w w':=by
 obtain ⟨W2,hW2⟩:∃ W2,w.alloc (.cells #[.int .i64 (M:Nat)] 3)=W2:=⟨_,rfl⟩
 have hb2:Below w.heap.size w W2:=by rw [<- hW2];exact (Below.refl _ _).alloc (Nat.le_refl _) _
 have hs2:W2.heap.size=w.heap.size+1:=by rw [<- hW2];simp
 have hr2:W2.heap[w.heap.size]? =some (.cells #[.int .i64 (M:Nat)] 3):=by rw [<- hW2];exact heap_alloc_new _ _
 obtain ⟨V5,hV5⟩:∃ V5,W2.alloc (.cells #[.int .i64 0] 3)=V5:=⟨_,rfl⟩
 have hvb:Below W2.heap.size W2 V5:=by rw [<- hV5];exact (Below.refl _ _).alloc (Nat.le_refl _) _
 have hvr:V5.heap[W2.heap.size]? =some (.cells #[.int .i64 0] 3):=by rw [<- hV5];exact heap_alloc_new _ _
 have hvc:=cell_of_row _ _ 0 _ _ (0,0) hvr;have hvf:=frozen_of_row _ _ 0 _ _ hvr
 have hvs:V5.heap.size=W2.heap.size+1:=by rw [<- hV5];simp
 obtain ⟨W5,hW5⟩:∃ W5,V5.setCell ⟨W2.heap.size,0,none⟩ (.int .i64 0)=W5:=⟨_,rfl⟩
 have hb5:Below W2.heap.size W2 W5:=by rw [<- hW5];exact hvb.setCell (p:=⟨W2.heap.size,0,none⟩) (Nat.le_refl _) _
 have hs5:W5.heap.size=W2.heap.size+1:=by rw [<- hW5];simp [World.setCell,hvs]
 have hq5:W5.heap[W2.heap.size]? =some (.cells #[.int .i64 0] 3):=by rw [<- hW5];exact heap_setCell_same V5 W2.heap.size 0 _ _ _ hvr
 rw [hs2] at hvc hvf hW5;have HB5:=Lib.hid (hb2.trans (hb5.mono (by omega)));have HM5:Hid (W5.heap[w.heap.size]? =some (.cells #[.int .i64 (M:Int)] 3)):=Lib.hid ((hb5.block _ (by omega)).trans hr2);have HC5:Hid (W5.heap[w.heap.size+1]? =some (.cells #[.int .i64 ((0:Nat):Int)] 3)):=Lib.hid (by rw [<- hs2];exact hq5)
 have hs55:W5.heap.size=w.heap.size+2:=by omega
 have HS5:=Lib.hid hs55;clear hb2 hr2 hvb hvr hb5 hq5 hs5 hvs hs55;refine (callsIn_wide (n:=9)).1 ?_;refine callsIn_of_wp_marks Tryz.func114 rfl trivial ?_ rfl;simp only [Tryz.ntmps114,List.size_toArray,List.length_cons,List.length_nil,Nat.reduceAdd,Nat.reduceSub,Array.replicate_succ,Array.replicate_zero,List.push_toArray,List.append_toArray,List.nil_append,List.cons_append]
 gi_wp2
 have h5:=HS5.out;obtain ⟨CB,hCB⟩:∃ CB,CB=w.heap.size+1:=⟨_,rfl⟩
 have hq6:W5.heap[CB]? =some (.cells #[.int .i64 ((0:Nat):Int)] 3):=by rw [hCB];exact HC5.out
 have hm6:=HM5.out;have hb06:=HB5.out
 have d1:CB<W5.heap.size:=by omega
 have d2:w.heap.size<CB:=by omega
 have d3:w.heap.size<W5.heap.size:=by omega
 rw [<- hCB];clear hW2 hW5 hV5 hvc hvf hs2 h5 hCB HS5 HC5 HM5 HB5
 refine range_skipP 9 (by rfl) eg hsq
  (fun pre X=>Below w.heap.size w X/\X.heap[CB]? =some (.cells #[.int .i64 ((pre.length:Nat):Int)] 3)/\pre.length<M/\X.heap[w.heap.size]? =some (.cells #[.int .i64 (M:Int)] 3))
  (fun cc X=>cc=.exit 0/\Below w.heap.size w X/\X.heap[CB]? =some (.cells #[.int .i64 (M:Int)] 3)/\M<=ways.length)
  (fun pre X h=>hBs X h.1)
  (fun pre X Y h hb=>⟨h.1.trans (hb.mono (by omega)),(hb.block _ d1).trans h.2.1,h.2.2.1,(hb.block _ d3).trans h.2.2.2⟩)
  (fun cc X o h hX=>⟨h.1,h.2.1.trans (below_putC _ (by omega) hX),(World.putObj_heap_other (by omega)).trans h.2.2.1,h.2.2.2⟩)
  ⟨hb06,hq6,hM1,hm6⟩ ?body ?done ?stop
 case body=>
  rintro l pre x X b n' c' ⟨hBX,hcX,hlt,hmX⟩ ⟨zs,hzs⟩ hbb hXs hrd
  have hlen:(pre++[x]).length=pre.length+1:=by simp
  have hCl:pre.length+1<=ways.length:=by rw [hzs];simp
  obtain ⟨k,hk⟩:∃ k,k=pre.length:=⟨_,rfl⟩;rw [<- hk] at hcX hlt hlen hCl;have hcc:=cell_of_row _ _ 0 _ _ (0,0) hcX;have hfc:=frozen_of_row _ _ 0 _ _ hcX;have hcm:=cell_of_row _ _ 0 _ _ (0,0) hmX;have Hlen:=Lib.hid hlen;have HBX:=Lib.hid hBX;have HcX:=Lib.hid hcX;have HmX:=Lib.hid hmX
  have hk6:k<600:=by omega
  clear hlen hBX hcX hmX hrd hzs hk;simp only [List.setIfInBounds_toArray,List.set_cons_zero,List.set_cons_succ]
  have hm1:W5.heap.size<=X.heap.size:=by omega
  have HCl:=Lib.hid hCl
  have HE:Hid (∀ v:Int,v=(k:Int)+1->(X.setCell ⟨CB,0,none⟩ (.int .i64 ((k:Int)+1))).heap[CB]? =some (.cells #[.int .i64 v] 3)/\(X.setCell ⟨CB,0,none⟩ (.int .i64 ((k:Int)+1))).heap[w.heap.size]? =some (.cells #[.int .i64 (M:Int)] 3)/\Below w.heap.size w (X.setCell ⟨CB,0,none⟩ (.int .i64 ((k:Int)+1)))):=Lib.hid (fun v hv=>by
   subst hv
   exact ⟨heap_setCell_same X CB 0 _ _ (.int .i64 ((k:Int)+1)) HcX.out,(heap_setCell_other X ⟨CB,0,none⟩ w.heap.size _ (fun e=>by dsimp only at e;omega)).trans HmX.out,HBX.out.setCell (p:=⟨CB,0,none⟩) (by show w.heap.size<=CB;omega) _⟩)
  have HM:=Lib.hid (Mid.setCell W5.heap.size CB 0 X (.int .i64 ((k:Int)+1)) d1)
  by_cases e:k+1=M
  ·have hq:((k:Int)+1==(M:Int))=true:=by rw [beq_iff_eq];omega
   have he:=Lib.hid e;clear e hlt hCl
   gi_wp2
   obtain ⟨e1,e2,e3⟩:=HE.out M (by have:=he.out;omega);exact ⟨HM.out,rfl,e3,e1,by have:=he.out;have:=HCl.out;omega⟩
  ·have hq:((k:Int)+1==(M:Int))=false:=by rw [beq_eq_false_iff_ne];omega
   have he:=Lib.hid e;have hl:=Lib.hid hlt;clear e hlt hCl
   gi_wp2
   obtain ⟨e1,e2,e3⟩:=HE.out (((pre++[x]).length:Nat):Int) (by rw [Hlen.out];omega);exact ⟨HM.out,e3,e1,by rw [Hlen.out];have:=he.out;have:=hl.out;omega,e2⟩
 case done=>
  rintro D W hD ⟨hBX,hcX,hlt,_⟩ hK;have hcc:=cell_of_row _ _ 0 _ _ (0,0) hcX;have H2:=Lib.hid (show (ways.take M).length=ways.length by rw [List.length_take];omega);clear hlt
  gi_wp2
  refine ⟨by simp,.inl ⟨_,_,rfl,run_takeDeferred hK,?_⟩⟩;exact ⟨_,results_tmp rfl _ _ _,by rw [H2.out];rfl,hBX.trans (below_put _ (by omega) hK)⟩
 case stop=>
  rintro D cc W hD ⟨rfl,hBX,hcX,hM⟩ hK;have hcc:=cell_of_row _ _ 0 _ _ (0,0) hcX;have H2:=Lib.hid (show (ways.take M).length=M by rw [List.length_take];omega);clear hM
  gi_wp2
  refine ⟨by simp,.inl ⟨_,_,rfl,run_takeDeferred hK,?_⟩⟩;exact ⟨_,results_tmp rfl _ _ _,by rw [H2.out];rfl,hBX.trans (below_put _ (by omega) hK)⟩
end Go.Proofs.YtkeoflnmbcdmfaaGreatDoor
namespace Go.Proofs.YtkeoflnmbcdmfaaGreatDoor
open Go.ChangeShapes Go.WideShapes Go.ChangeAt Go.RowKit Go.Shelf
attribute [local go_sem] Oper.semAt_some
def csI (s:Int) (n:Nat) (gi:List Int) (rs:List RuleM) (most:Int):Int:=if (pvB s gi rs&&inr most 1 600)=true then ((allS s most.toNat n gi rs).length:Nat) else -1
set_option maxHeartbeats 2000000 in
theorem countP_any (s:Int) (Ag:Option Addr) (n cg Bg:Nat) (gi:List Int) (Ar:Option Addr) (nr cr Br:Nat) (rs:List RuleM) (M:Nat) (w:World) (hp:PGc w s Ag n cg Bg gi Ar nr cr Br rs) (hv:pvB s gi rs=true) (hM1:0<M) (hM6:M<=600) (hT:Tz w):
 Calls Tryz.prog 61 #[.agg #[.int .i64 s,.slice Ag n cg,.slice Ar nr cr],.int .i64 (M:Nat)] w fun e w'=>e=.returned (.int .i64 ((allS s M n gi rs).length:Nat))/\Below w.heap.size w w':=by
 have hx0:=pbox_new w s Ag n cg Ar nr cr 26;have hb0:Below w.heap.size w (w.alloc (.cells #[.int .i64 s,.slice Ag n cg,.slice Ar nr cr] 26)):=(Below.refl _ _).alloc (Nat.le_refl _) _;obtain ⟨z0,z1,z2⟩:=id hx0;obtain ⟨t,rfl,hs,hnn,hn16,hok⟩:=pv_grid hv hp.g.1
 have hn:n=t*t:=by simp at hs;rcases hs with rfl|rfl|rfl<;>omega
 have hmr:nr<=20:=by have:=(pv_gv hv).2.1;have:=hp.r.1;omega
 have H1:=Lib.hid (show ((allS t M n gi rs).length:Nat)=((cv t gi rs (t*t) []).take M).length by rw [allS_cv hp.g.1 hv hM1 hn]);have hg:=hp.g.more hp.gB;have hr:=hp.r.more hp.rB;have HC:=Lib.hid (fun (PB:Nat) (w6:World) (hPB:w.heap.size<=PB) (hpb:PBox w6 PB t Ag n cg Ar nr cr) (h06:Below w.heap.size w w6)=>countUpTo_any M w6 (sols_seq w w.heap.size PB t n Ag cg gi Ar nr cr rs (Nat.le_refl _) hs hn hg hr hmr hv (fun X hX=>hT.below hT.lt hX)) (enters_of Tryz.func123 (by kernel_rfl) rfl) (fun X hX=>⟨h06.trans (hX.mono h06.size),hpb.below (cell_lt hpb.1) hX⟩) hM1 hM6)
 have HSL:=Lib.hid (fun W=>solutions_any t n Ag cg Ar nr cr W);clear hok hnn hn hg hr hv hp hT hx0
 go_enter Tryz.func61,Tryz.ntmps61
 go_wp2_with (first
  |(go_at_call 69;refine (HSL.out _).mono ?_;rintro e w6 ⟨PB,rfl,hPl,hpb,hb6⟩;have h06:=step hb0 hb6;have hPl2:=Nat.le_trans hb0.size hPl)
  |(go_at_call 114;refine (HC.out PB w6 hPl2 hpb h06).mono ?_;rintro e w7 ⟨rfl,hb7⟩))
 go_ret
 exact ⟨by rw [H1.out,List.length_take];rfl,step h06 hb7⟩
set_option maxHeartbeats 2000000 in
theorem implCountSolutions (s:Int) (Ag:Option Addr) (n cg Bg:Nat) (gi:List Int) (Ar:Option Addr) (nr cr Br:Nat) (rs:List RuleM) (most:Int) (w:World) (hp:PGc w s Ag n cg Bg gi Ar nr cr Br rs) (hT:Tz w):
 Calls Tryz.prog 16 #[.agg #[.int .i64 s,.slice Ag n cg,.slice Ar nr cr],.int .i64 most] w fun e w'=>e=.returned (.int .i64 (csI s n gi rs most))/\Below w.heap.size w w':=by
 have hx0:=pbox_new w s Ag n cg Ar nr cr 26;have hb0:Below w.heap.size w (w.alloc (.cells #[.int .i64 s,.slice Ag n cg,.slice Ar nr cr] 26)):=(Below.refl _ _).alloc (Nat.le_refl _) _
 have hs0:w.heap.size<(w.alloc (.cells #[.int .i64 s,.slice Ag n cg,.slice Ar nr cr] 26)).heap.size:=by simp
 obtain ⟨z0,z1,z2⟩:=id hx0;have HV:=Lib.hid (valid_any s Ag n cg Bg gi Ar nr cr Br rs _ (hp.below hb0));cases hv:pvB s gi rs
 ·have H1:=Lib.hid (show csI s n gi rs most= -1 by simp [csI,hv])
  go_enter Tryz.func16,Tryz.ntmps16
  go_wp2_with (go_at_call 60;refine HV.out.mono ?_;rintro e w4 ⟨rfl,hb4⟩;rw [hv])
  go_ret
  exact ⟨by rw [H1.out];rfl,step hb0 hb4⟩
 ·by_cases hlo:most<1
  ·have H1:=Lib.hid (show csI s n gi rs most= -1 by
    have:inr most 1 600=false:=(by unfold inr;simp;omega)
    simp [csI,this])
   go_enter Tryz.func16,Tryz.ntmps16
   go_wp2_with (go_at_call 60;refine HV.out.mono ?_;rintro e w4 ⟨rfl,hb4⟩;rw [hv])
   go_ret
   exact ⟨by rw [H1.out];rfl,step hb0 hb4⟩
  ·by_cases hhi:600<most
   ·have H1:=Lib.hid (show csI s n gi rs most= -1 by
     have:inr most 1 600=false:=(by unfold inr;simp;omega)
     simp [csI,this])
    go_enter Tryz.func16,Tryz.ntmps16
    go_wp2_with (go_at_call 60;refine HV.out.mono ?_;rintro e w4 ⟨rfl,hb4⟩;rw [hv])
    go_ret
    exact ⟨by rw [H1.out];rfl,step hb0 hb4⟩
   ·obtain ⟨M,rfl⟩:=Int.eq_ofNat_of_zero_le (show 0<=most by omega)
    have H1:=Lib.hid (show csI s n gi rs (M:Nat)=((allS s M n gi rs).length:Nat) by
     have:inr (M:Int) 1 600=true:=(by unfold inr;simp;omega)
     simp only [csI,hv,this,Bool.true_and,if_true,Int.toNat_natCast])
    have HC:=Lib.hid (fun w' (hb:Below w.heap.size w w')=>countP_any s Ag n cg Bg gi Ar nr cr Br rs M w' (hp.below hb) hv (by omega) (by omega) (hT.below hT.lt hb))
    go_enter Tryz.func16,Tryz.ntmps16
    go_wp2_with (first
     |(go_at_call 60;refine HV.out.mono ?_;rintro e w4 ⟨rfl,hb4⟩;rw [hv];have h04:=step hb0 hb4;obtain ⟨y0,y1,y2⟩:=hx0.below hs0 hb4)
     |(go_at_call 61;refine (HC.out _ h04).mono ?_;rintro e w5 ⟨rfl,hb5⟩))
    go_ret
    exact ⟨by rw [H1.out];rfl,step h04 hb5⟩
end Go.Proofs.YtkeoflnmbcdmfaaGreatDoor
namespace Go.Proofs.YtkeoflnmbcdmfaaGreatDoor
open Go.ChangeShapes Go.WideShapes Go.ChangeAt Go.RowKit
theorem cv_sqL {s:Nat} {gi:List Int} {rs:List RuleM} {n:Nat} (hl:gi.length=n) (hv:pvB s gi rs=true) (hn:n=s*s):cv s gi rs (s*s) []=(sqL s).filter (psB s gi rs):=by
 rw [<- solL_is hv,<-hn,<-hl];exact cv_is hv
theorem start_em {gi:List Int} {s n:Nat} (hl:gi.length=n) (hok:∀ k,k<n->0<=nth gi k) (hs:s∈[2,3,4]):mapTo (startC gi s) n=emL gi s:=by
 apply ext_nth (by rw [mapTo_length,emL_len_ hl])
 intro k hk;rw [mapTo_length] at hk;rw [mapTo_nth hk,emL_at hl hk];have h0:=hok k hk;unfold startC emN
 by_cases e:nth gi k=0
 ·rw [if_neg (by omega),if_pos e]
  simp at hs
  rcases hs with rfl|rfl|rfl<;>rfl
 ·rw [if_pos (by omega),if_neg e]
  simp
theorem implStartMasks (s:Int) (Ag:Option Addr) (n cg Bg:Nat) (gi:List Int) (Ar:Option Addr) (nr cr Br:Nat) (rs:List RuleM) (w:World) (hp:PGc w s Ag n cg Bg gi Ar nr cr Br rs):
 Calls Tryz.prog 30 #[.agg #[.int .i64 s,.slice Ag n cg,.slice Ar nr cr]] w (RetSl w (startL s gi rs n)):=by
 have hx0:=pbox_new w s Ag n cg Ar nr cr 26;have hb0:Below w.heap.size w (w.alloc (.cells #[.int .i64 s,.slice Ag n cg,.slice Ar nr cr] 26)):=(Below.refl _ _).alloc (Nat.le_refl _) _
 have hs0:w.heap.size<(w.alloc (.cells #[.int .i64 s,.slice Ag n cg,.slice Ar nr cr] 26)).heap.size:=by simp
 obtain ⟨z0,z1,z2⟩:=id hx0;have HV:=Lib.hid (valid_any s Ag n cg Bg gi Ar nr cr Br rs _ (hp.below hb0));cases hv:pvB s gi rs
 ·have HL:=Lib.hid (show startL s gi rs n=[] by simp [startL,hv])
  go_enter Tryz.func30,Tryz.ntmps30
  go_wp2_with (go_at_call 60;refine HV.out.mono ?_;rintro e w1 ⟨rfl,hb1⟩;rw [hv])
  go_ret
  rw [HL.out];exact ⟨_,_,rfl,Ow.nil_ _ _,step hb0 hb1⟩
 ·obtain ⟨t,rfl,hs,_,hn16,hok⟩:=pv_grid hv hp.g.1
  have hs4:t<=4:=by simp at hs;omega
  have hlen:=hp.g.1
  have HL:=Lib.hid (show startL t gi rs n=emL gi t by
   rw [<- start_em hlen (fun k hk=>(hok k hk).1) hs]
   simp [startL,hv])
  have Hel:=Lib.hid (emL_len_ (s:=t) hlen);have HO:=Lib.hid (fun w' (hb:Below w.heap.size w w')=>openMasks_any Ag cg n Bg gi t w' (hp.below hb).g (hp.below hb).gB hn16 hs (fun i hi=>by have:=hok i hi;omega));clear hok
  go_enter Tryz.func30,Tryz.ntmps30
  go_wp2_with (first
   |(go_at_call 60;refine HV.out.mono ?_;rintro e w1 ⟨rfl,hb1⟩;rw [hv];have h01:=step hb0 hb1;obtain ⟨c0,c1,c2⟩:=hx0.below hs0 hb1)
   |(go_at_call 82;refine (HO.out _ h01).mono ?_;rintro e w2 ⟨A2,c2',rfl,ho2,hb2⟩))
  go_ret
  rw [HL.out];exact ⟨_,_,rfl,ho2.mono h01.size,step h01 hb2⟩
theorem start_mvdM {s:Int} {gi:List Int} {rs:List RuleM} {n:Nat} (hl:gi.length=n) (hv:pvB s gi rs=true):(startL s gi rs n).length=n/\mvd (startL s gi rs n) s=true:=by
 obtain ⟨t,rfl,hs,hn,_,hok⟩:=pv_grid hv hl
 have e:startL t gi rs n=mapTo (startC gi t) n:=by simp [startL,hv]
 rw [e];refine ⟨mapTo_length _ _,?_⟩;simp only [mvd,Bool.and_eq_true,beq_iff_eq,mapTo_length,Int.toNat_natCast];refine ⟨⟨by simp at hs;simp [inr];omega,hn⟩,allTo_all (n:=n) (fun k hk=>?_) (mapTo_length _ _)⟩;rw [mapTo_nth hk];obtain ⟨y0,y1⟩:=hok k hk;unfold startC
 have hk4:nth gi k=0\/nth gi k=1\/nth gi k=2\/nth gi k=3\/nth gi k=4:=by simp at hs;omega
 simp at hs
 rcases hs with rfl|rfl|rfl<;>rcases hk4 with h|h|h|h|h<;>rw [h] at y1 ⊢ <;>first|(exfalso;revert y1;decide)|decide
theorem start_have {t:Nat} {gi y:List Int} {rs:List RuleM} {n:Nat} (hs:t∈[2,3,4]) (hl:gi.length=n) (hp:psB t gi rs y=true):mhB (startL t gi rs n) t y=true:=by
 unfold psB at hp;rw [Bool.and_eq_true] at hp;obtain ⟨hpv,hg,h1,_,_⟩:=fp_parts.1 hp.1;obtain ⟨hsl,hsv⟩:=start_mvdM hl hpv
 have hgf:gf y t=(cnz y y.length:Int):=by simp [gf,hg]
 have hc:cnz y y.length=y.length:=by have:=hp.2;rw [hgf,beq_iff_eq] at this;omega
 have hn:=cnz_all hc
 have e:startL t gi rs n=mapTo (startC gi t) n:=by simp [startL,hpv]
 have hyl:=gv_len hg;have hgl:=gv_len (pv_gv hpv).1
 have hyn:y.length=n:=by omega
 unfold mhB;rw [hsv,hg,Bool.true_and,Bool.true_and];refine all_done (fun k hk=>?_);have a1:=hn k hk;have a2:=gv_nth hg hk;have a3:=gv_nth (pv_gv hpv).1 (show k<gi.length by omega);have a4:=h1 k hk;rw [hyn] at hk;unfold inMask;rw [e,mapTo_nth hk];unfold startC;unfold giveOk at a4
 have t4:t=2\/t=3\/t=4:=by simpa using hs
 have y4:nth y k=1\/nth y k=2\/nth y k=3\/nth y k=4:=by omega
 have g4:nth gi k=0\/nth gi k=1\/nth gi k=2\/nth gi k=3\/nth gi k=4:=by omega
 clear hs hl hp hpv hg h1 hsl hsv hgf hc hn e hyl hgl hyn hk
 generalize nth y k=a at*
 generalize nth gi k=b at*
 rcases t4 with rfl|rfl|rfl<;>rcases y4 with rfl|rfl|rfl|rfl<;>rcases g4 with rfl|rfl|rfl|rfl|rfl<;>first|decide|(exfalso;omega)|(exfalso;revert a4;decide)
theorem sf_psM {s:Nat} {gi:List Int} {rs:List RuleM} {n:Nat} (hl:gi.length=n) (hv:pvB s gi rs=true) (hn:n=s*s) (h:sfB s n gi rs=true):psB s gi rs (sfL s n gi rs)=true:=by
 cases e:cv s gi rs (s*s) [] with
 |nil=>rw [(sf_nil hl hv hn e).2] at h;cases h
 |cons y zs=>
  rw [(sf_cons hl hv hn e).1]
  have:y∈(sqL s).filter (psB s gi rs):=by rw [<- cv_sqL hl hv hn,e];exact List.mem_cons_self ..
  exact (List.mem_filter.1 this).2
end Go.Proofs.YtkeoflnmbcdmfaaGreatDoor
namespace Go.Proofs.YtkeoflnmbcdmfaaGreatDoor
section
variable {P : Program} {md : Region.Mode} {ops : Array Oper} {Q : Exit → Act → World → Prop} {Inv : Array Bool → Act → World → Prop}
end
end Go.Proofs.YtkeoflnmbcdmfaaGreatDoor
namespace Go.Proofs.YtkeoflnmbcdmfaaGreatDoor
open Go.ChangeShapes Go.WideShapes Go.ChangeAt Go.RowKit
structure MwR (G R:Nat) (W w:World):Prop where
 os:w.os=W.os
 tape:w.tape=W.tape
 output:w.output=W.output
 size:W.heap.size<=w.heap.size
 same:∀ k,k<W.heap.size->k≠G->k≠R->w.heap[k]? =W.heap[k]?
 row:∀ cs:Array Value,W.heap[R]? =some (.cells cs 26)->cs.size=3->∃ cs':Array Value,w.heap[R]? =some (.cells cs' 26)/\cs'.size=3
theorem MwR.trans {G R:Nat} {a b c:World} (h:MwR G R a b) (k:MwR G R b c):MwR G R a c:=
 ⟨k.os.trans h.os,k.tape.trans h.tape,k.output.trans h.output,Nat.le_trans h.size k.size,fun i hi h1 h2=>(k.same i (Nat.lt_of_lt_of_le hi h.size) h1 h2).trans (h.same i hi h1 h2),fun cs h1 h2=>by
   obtain ⟨c1,e1,e2⟩:=h.row cs h1 h2
   exact k.row c1 e1 e2⟩
theorem heap_alloc_old {w:World} {R:Nat} (hR:R<w.heap.size) (o:Obj):(w.alloc o).heap[R]? =w.heap[R]? :=((Below.refl _ w).alloc (Nat.le_refl _) o).block R hR
structure Aside (D:Nat) (X Y:World):Prop where
 os:Y.os=X.os
 tape:Y.tape=X.tape
 output:Y.output=X.output
 size:X.heap.size<=Y.heap.size
 block:∀ k,k<X.heap.size->k≠D->k≠D+1->Y.heap[k]? =X.heap[k]?
theorem Aside.of_below {D:Nat} {X Y:World} (h:Below X.heap.size X Y):Aside D X Y:=⟨h.os,h.tape,h.output,h.size,fun k hk _ _=>h.block k hk⟩
theorem Aside.of_put {D l:Nat} {X:World} (o:Obj) (h:l=D\/l=D+1):Aside D X (X.putObj l o):=
 ⟨rfl,rfl,rfl,by simp,fun k _ h1 h2=>World.putObj_heap_other (by omega)⟩
theorem Aside.below {D:Nat} {X Y:World} (h:Aside D X Y) (hD:D<=X.heap.size):Below D X Y:=⟨h.os,h.tape,h.output,h.size,fun k hk=>h.block k (by omega) (by omega) (by omega)⟩
def SeqT (P:Program) (gf:Nat) (lb:Array Value) (Base:World->Prop) (rounds:List (Nat×List Int)):Prop:=
 ∀ (l:Nat) (J:List (Nat×List Int)->World->Prop) (Jx:World->Prop) (W:World),
   (∀ pre X,J pre X->Base X)->
   (∀ pre X Y,J pre X->Below X.heap.size X Y->J pre Y)->
   (∀ X Y,Jx X->Below X.heap.size X Y->Jx Y)->
   (∀ pre t x X b n c,J pre X->(∃ tl,rounds=pre++(t,x)::tl)->W.heap.size<=b->Ow X W.heap.size (some ⟨b,0,none⟩) n c x->
     YieldAt Fence.wide 0 P l #[.int .i64 (t:Nat),.slice (some ⟨b,0,none⟩) n c] X fun e Y=>X.heap.size<=Y.heap.size/\Y.heap[b]? =X.heap[b]? /\((e=.returned (.bool true)/\J (pre++[(t,x)]) Y)\/(e=.returned (.bool false)/\Jx Y)))->
   J [] W->
   Calls P gf (#[.func (.yield l) #[] #[]]++lb) W fun e Y=>(∃ v,e=.returned v)/\(J rounds Y\/Jx Y)
def rndPost (D b:Nat) (I:List (Nat×List Int)->World->Prop) (Ix:Code->World->Prop) (xs:List (Nat×List Int)) (X:World):Exit->Act->World->Prop
 |.normal,_,Y=>(X.heap.size<=Y.heap.size/\∀ k,k=b\/k=D\/k=D+1->Y.heap[k]? =X.heap[k]?)/\I xs Y
 |.ret,_,Y=>(X.heap.size<=Y.heap.size/\∀ k,k=b\/k=D\/k=D+1->Y.heap[k]? =X.heap[k]?)/\Ix .ret Y
 |.exit id,_,Y=>(X.heap.size<=Y.heap.size/\∀ k,k=b\/k=D\/k=D+1->Y.heap[k]? =X.heap[k]?)/\Ix (.exit id) Y
 |.goto t,_,Y=>(X.heap.size<=Y.heap.size/\∀ k,k=b\/k=D\/k=D+1->Y.heap[k]? =X.heap[k]?)/\Ix (.goto t) Y
 |.panic _,_,_=>False
 |.outgrown,_,_=>False
theorem range_rounds {P:Program} (m:Nat) {g:Operand} {ps:Array Tmp} {assign body:Code} {Q:Exit->Act->World->Prop} {a:Act} {w:World}
 {gf:Nat} {lb:Array Value} (hg:a.eval g=.func (.func gf) #[] lb) (eg:∀ args w,(callFunc gf args).run P w=.ok (.enter gf args) w) (hps:ps.size=2)
 {Base:World->Prop} {rounds:List (Nat×List Int)} (hseq:SeqT P gf lb Base rounds)
 (I:List (Nat×List Int)->World->Prop) (Ix:Code->World->Prop) (hIb:∀ pre X,I pre X->Base X)
 (hI:∀ pre X Y,I pre X->Aside w.heap.size X Y->I pre Y) (hIx:∀ c X Y,Ix c X->Aside w.heap.size X Y->Ix c Y) (h0:I [] w) (a₁:Value->Value->Act)
 (hassign:∀ (l:Nat) (u v:Value) (W:World) (K:Act->World->Prop),K (a₁ u v) W->
   assign.wpIn (Fence.wide.inRound l) m P (Exit.then K (fun _ _ _=>False)) { tmps:=(ps.zip #[u,v]).foldl (fun t (p,v)=>t.setIfInBounds p v) a.tmps,defers:=[] } W)
 (hbody:∀ (l:Nat) (pre:List (Nat×List Int)) (t:Nat) (x:List Int) (X:World) (b n c:Nat),I pre X->(∃ tl,rounds=pre++(t,x)::tl)->w.heap.size+2<=b->w.heap.size+2<=X.heap.size->Ow X (w.heap.size+2) (some ⟨b,0,none⟩) n c x->(∃ o,X.heap[w.heap.size]? =some (.deferred o))->(∃ o,X.heap[w.heap.size+1]? =some (.loop o))->
   body.wpIn (Fence.wide.inRound l) m P (rndPost w.heap.size b I Ix (pre++[(t,x)]) X) (a₁ (.int .i64 (t:Nat)) (.slice (some ⟨b,0,none⟩) n c)) X)
 (hdone:∀ (D:Nat) (W:World),w.heap.size<=D->I rounds W->W.heap[D]? =some (.deferred (some []))->Q .normal { a with defers:={ target:=.collected D,args:= #[] }::a.defers } W)
 (hstop:∀ (D:Nat) (c:Code) (W:World),w.heap.size<=D->Ix c W->W.heap[D]? =some (.deferred (some []))->c.wpIn Fence.wide m P Q { a with defers:={ target:=.collected D,args:= #[] }::a.defers } W):
 (Code.rangeFunc g ps assign body).wpIn Fence.wide m P Q a w:=by
 refine wpIn_rangeFunc ?_;intro fn _
 obtain ⟨rec,hrec⟩:∃ rec:LoopState->Option Code->Loop,rec=fun st pe=>{ state:=st,pending:=pe,fn,tmps:=a.tmps,params:=ps,assign,body,defers:=w.heap.size }:=⟨_,rfl⟩
 obtain ⟨W1,hW1⟩:∃ W1,(w.alloc (.deferred (some []))).alloc (.loop (rec .ready none))=W1:=⟨_,rfl⟩
 have hs1:W1.heap.size=w.heap.size+2:=by rw [<- hW1];simp
 have hL1:W1.heap[w.heap.size+1]? =some (.loop (rec .ready none)):=by
  rw [<- hW1];have:=World.alloc_heap_new (w.alloc (.deferred (some []))) (.loop (rec .ready none));rwa [World.size_alloc] at this
 have hK1:W1.heap[w.heap.size]? =some (.deferred (some [])):=by
  rw [<- hW1];exact (Below.heap_alloc _ _ _ (by simp)).trans (World.alloc_heap_new w _)
 have hb1:Below w.heap.size w W1:=by
  rw [<- hW1];exact ((Below.refl _ w).alloc (Nat.le_refl _) _).alloc (by simp) _
 refine ⟨w.heap.size+1,[{ target:=.collected w.heap.size,args:= #[] }],W1,{ target:=.fn (.func gf) lb,args:= #[.func (.yield (w.heap.size+1)) #[] #[]] },W1,gf,
  #[.func (.yield (w.heap.size+1)) #[] #[]]++lb,W1,?_,?_,?_,?_,fun h=>by simp [Fence.wide] at h,?_⟩
 ·rw [<- hW1,hrec];exact run_enterLoop_outer _ _ _ _ _
 ·simp only [resolve,hg]
  simp [go_sem]
 ·intro f' _;trivial
 ·simp [invoke,go_sem,eg]
 ·refine callsIn_wide.2 ((hseq (w.heap.size+1)
   (fun pre W=>I pre W/\W.heap[w.heap.size+1]? =some (.loop (rec .ready none))/\W.heap[w.heap.size]? =some (.deferred (some [])))
   (fun W=>∃ c,Ix c W/\W.heap[w.heap.size+1]? =some (.loop (rec .done (some c)))/\W.heap[w.heap.size]? =some (.deferred (some [])))
   W1 (fun pre X h=>hIb pre X h.1)
   (fun pre X Y hs hb=>⟨hI pre X Y hs.1 (Aside.of_below hb),(hb.block _ (Array.getElem?_eq_some_iff.1 hs.2.1).1).trans hs.2.1,(hb.block _ (Array.getElem?_eq_some_iff.1 hs.2.2).1).trans hs.2.2⟩)
   (fun X Y hs hb=>by
     obtain ⟨c,h1,h2,h3⟩:=hs
     exact ⟨c,hIx c X Y h1 (Aside.of_below hb),(hb.block _ (Array.getElem?_eq_some_iff.1 h2).1).trans h2,(hb.block _ (Array.getElem?_eq_some_iff.1 h3).1).trans h3⟩)
   ?_ ⟨hI [] w W1 h0 ⟨hb1.os,hb1.tape,hb1.output,hb1.size,fun k hk _ _=>hb1.block k hk⟩,hL1,hK1⟩).mono ?_)
  ·rintro pre t x X b n c ⟨hi,hl,hk⟩ hx hbw hown;have hlt:w.heap.size+1<X.heap.size:=(Array.getElem?_eq_some_iff.1 hl).1;have hy:=run_yield (P:=P) (args:= #[.int .i64 (t:Nat),.slice (some ⟨b,0,none⟩) n c]) hl (by rw [hrec];simp [hps]);rw [hrec] at hy;refine ⟨fn,_,assign,body,hy,roundIn_any (m:=m) (roundIn_of_wpIn trivial (hassign _ (.int .i64 (t:Nat)) (.slice (some ⟨b,0,none⟩) n c) X _ ⟨_,run_beginRound hl (by rw [hrec]),?_⟩))⟩;obtain ⟨X2,hX2⟩:∃ X2,X.putObj (w.heap.size+1) (.loop { rec .ready none with state:=.busy })=X2:=⟨_,rfl⟩;have hl2:X2.heap[w.heap.size+1]? =some (.loop { rec .ready none with state:=.busy }):=(by rw [<- hX2];exact World.putObj_heap_same hlt)
   have hk2:X2.heap[w.heap.size]? =some (.deferred (some [])):=(by rw [<- hX2];exact (World.putObj_heap_other (by omega)).trans hk);have hA2:Aside w.heap.size X X2:=(by rw [<- hX2];exact Aside.of_put _ (.inr rfl));have hb2:X2.heap[b]? =X.heap[b]? :=(by rw [<- hX2];exact World.putObj_heap_other (by omega));have hown2:Ow X2 (w.heap.size+2) (some ⟨b,0,none⟩) n c x:=(by rw [<- hs1];exact hown.same hb2);have hsz2:=hA2.size;rw [hX2];refine wpIn_mono (hbody _ pre t x X2 b n c (hI _ _ _ hi hA2) hx (by omega) (by omega) hown2 ⟨_,hk2⟩ ⟨_,hl2⟩) ?_
   have fin:∀ (jump:Option Code) (W3:World),(X2.heap.size<=W3.heap.size/\∀ k,k=b\/k=w.heap.size\/k=w.heap.size+1->W3.heap[k]? =X2.heap[k]?)->
       (Instr.endRound (w.heap.size+1) jump).run P W3=.ok (.bool jump.isNone) (W3.putObj (w.heap.size+1) (.loop (rec (if jump.isNone then .ready else .done) jump)))/\
       Aside w.heap.size W3 (W3.putObj (w.heap.size+1) (.loop (rec (if jump.isNone then .ready else .done) jump)))/\
       X.heap.size<=(W3.putObj (w.heap.size+1) (.loop (rec (if jump.isNone then .ready else .done) jump))).heap.size/\
       (W3.putObj (w.heap.size+1) (.loop (rec (if jump.isNone then .ready else .done) jump))).heap[b]? =X.heap[b]? /\
       (W3.putObj (w.heap.size+1) (.loop (rec (if jump.isNone then .ready else .done) jump))).heap[w.heap.size+1]? =some (.loop (rec (if jump.isNone then .ready else .done) jump))/\
       (W3.putObj (w.heap.size+1) (.loop (rec (if jump.isNone then .ready else .done) jump))).heap[w.heap.size]? =some (.deferred (some [])):=fun jump W3 hk3=>by
    have hl3:=(hk3.2 (w.heap.size+1) (by omega)).trans hl2;have hlt3:=(Array.getElem?_eq_some_iff.1 hl3).1;have:=run_endRound (P:=P) jump hl3;rw [hrec] at this ⊢;exact ⟨this,Aside.of_put _ (.inr rfl),by have:=hk3.1;simp;omega,(World.putObj_heap_other (by omega)).trans ((hk3.2 b (.inl rfl)).trans hb2),World.putObj_heap_same hlt3,(World.putObj_heap_other (by omega)).trans ((hk3.2 _ (.inr (.inl rfl))).trans hk2)⟩
   rintro e a3 W3 hp
   cases e with
   |normal=>
    obtain ⟨hk3,hi3⟩:=hp;obtain ⟨hr,hb4,hm4,hm5,hl4,hk4⟩:=fin none W3 hk3;exact ⟨_,_,hr,hm4,hm5,.inl ⟨rfl,hI _ _ _ hi3 hb4,hl4,hk4⟩⟩
   |ret=>
    obtain ⟨hk3,hi3⟩:=hp;obtain ⟨hr,hb4,hm4,hm5,hl4,hk4⟩:=fin (some .ret) W3 hk3;exact ⟨_,_,hr,hm4,hm5,.inr ⟨rfl,.ret,hIx _ _ _ hi3 hb4,hl4,hk4⟩⟩
   |exit id=>
    obtain ⟨hk3,hi3⟩:=hp;obtain ⟨hr,hb4,hm4,hm5,hl4,hk4⟩:=fin (some (.exit id)) W3 hk3;exact ⟨_,_,hr,hm4,hm5,.inr ⟨rfl,.exit id,hIx _ _ _ hi3 hb4,hl4,hk4⟩⟩
   |goto t'=>
    obtain ⟨hk3,hi3⟩:=hp;obtain ⟨hr,hb4,hm4,hm5,hl4,hk4⟩:=fin (some (.goto t')) W3 hk3;exact ⟨_,_,hr,hm4,hm5,.inr ⟨rfl,.goto t',hIx _ _ _ hi3 hb4,hl4,hk4⟩⟩
   |panic ch=>exact hp.elim
   |outgrown=>exact hp.elim
  ·rintro e W2 ⟨⟨v,rfl⟩,(⟨hi,hl,hk⟩|⟨c,hi,hl,hk⟩)⟩
   ·exact ⟨none,_,by have:=run_endLoop (P:=P) hl (by rw [hrec];simp);rw [hrec] at this;exact this,hdone _ _ (Nat.le_refl _) (hI _ _ _ hi (Aside.of_put _ (.inr rfl))) ((World.putObj_heap_other (by omega)).trans hk)⟩
   ·exact ⟨some c,_,by have:=run_endLoop (P:=P) hl (by rw [hrec];simp);rw [hrec] at this;exact this,hstop _ c _ (Nat.le_refl _) (hIx _ _ _ hi (Aside.of_put _ (.inr rfl))) ((World.putObj_heap_other (by omega)).trans hk)⟩
theorem range_rounds2 {P:Program} (m:Nat) {g:Operand} {p p' q:Nat} {assign body:Code} {Q:Exit->Act->World->Prop} {a:Act} {w:World}
 {gf:Nat} {lb:Array Value} (hg:a.eval g=.func (.func gf) #[] lb) (eg:∀ args w,(callFunc gf args).run P w=.ok (.enter gf args) w)
 {Base:World->Prop} {rounds:List (Nat×List Int)} (hseq:SeqT P gf lb Base rounds)
 (I:List (Nat×List Int)->World->Prop) (Ix:Code->World->Prop) (hIb:∀ pre X,I pre X->Base X)
 (hI:∀ pre X Y,I pre X->Aside w.heap.size X Y->I pre Y) (hIx:∀ c X Y,Ix c X->Aside w.heap.size X Y->Ix c Y) (h0:I [] w)
 (hassign:∀ (l:Nat) (u v:Value) (W:World) (K:Act->World->Prop),K { tmps:=((a.tmps.setIfInBounds p u).setIfInBounds p' v).setIfInBounds q v,defers:=[] } W->
   assign.wpIn (Fence.wide.inRound l) m P (Exit.then K (fun _ _ _=>False)) { tmps:=(a.tmps.setIfInBounds p u).setIfInBounds p' v,defers:=[] } W)
 (hbody:∀ (l:Nat) (pre:List (Nat×List Int)) (t:Nat) (x:List Int) (X:World) (b n c:Nat),I pre X->(∃ tl,rounds=pre++(t,x)::tl)->w.heap.size+2<=b->w.heap.size+2<=X.heap.size->Ow X (w.heap.size+2) (some ⟨b,0,none⟩) n c x->(∃ o,X.heap[w.heap.size]? =some (.deferred o))->(∃ o,X.heap[w.heap.size+1]? =some (.loop o))->
   body.wpIn (Fence.wide.inRound l) m P (rndPost w.heap.size b I Ix (pre++[(t,x)]) X) { tmps:=((a.tmps.setIfInBounds p (.int .i64 (t:Nat))).setIfInBounds p' (.slice (some ⟨b,0,none⟩) n c)).setIfInBounds q (.slice (some ⟨b,0,none⟩) n c),defers:=[] } X)
 (hdone:∀ (D:Nat) (W:World),w.heap.size<=D->I rounds W->W.heap[D]? =some (.deferred (some []))->Q .normal { a with defers:={ target:=.collected D,args:= #[] }::a.defers } W)
 (hstop:∀ (D:Nat) (c:Code) (W:World),w.heap.size<=D->Ix c W->W.heap[D]? =some (.deferred (some []))->c.wpIn Fence.wide m P Q { a with defers:={ target:=.collected D,args:= #[] }::a.defers } W):
 (Code.rangeFunc g #[p,p'] assign body).wpIn Fence.wide m P Q a w:=
 range_rounds m hg eg rfl hseq I Ix hIb hI hIx h0 (fun u v=>{ tmps:=((a.tmps.setIfInBounds p u).setIfInBounds p' v).setIfInBounds q v,defers:=[] }) (fun l u v W K hK=>by
  simpa using hassign l u v W K hK) hbody hdone hstop
def roF (s:Int) (gi:List Int) (rs:List RuleM) (most:Nat):Nat->List Int->List (Nat×List Int)
 |0,_=>[]
 |f+1,o=>match ntF s gi rs o most 1 with
  |none=>[]
  |some q=>(q.2,q.1)::roF s gi rs most f q.1
def lastO (o:List Int):List (Nat×List Int)->List Int
 |[]=>o
 |x::L=>lastO x.2 L
theorem lastO_push (o:List Int) (L:List (Nat×List Int)) (x:Nat×List Int):lastO o (L++[x])=x.2:=by
 induction L generalizing o with
 |nil=>rfl
 |cons y L ih=>exact ih y.2
theorem lastO_app (o:List Int) (L L':List (Nat×List Int)):lastO o (L++L')=lastO (lastO o L) L':=by
 induction L generalizing o with
 |nil=>rfl
 |cons y L ih=>exact ih y.2
theorem naI_ro {s:Int} {gi:List Int} {rs:List RuleM} {most:Nat}:∀ f o r,naI s gi rs most f o r=(lastO o (roF s gi rs most f o),r+(roF s gi rs most f o).length):=by
 intro f
 induction f with
 |zero=>intro o r;rfl
 |succ f ih=>
  intro o r;simp only [naI,roF]
  cases ntF s gi rs o most 1 with
  |none=>rfl
  |some q=>simp only [ih,lastO,List.length_cons];congr 1;omega
section
variable {s : Int} {gi : List Int} {rs : List RuleM} {most : Nat}
theorem roF_fuel (hv:pvB s gi rs=true) (h4:most<=4):∀ f f' o,mvd o s=true->sumTo o o.length<f->sumTo o o.length<f'->roF s gi rs most f o=roF s gi rs most f' o:=by
 intro f
 induction f with
 |zero=>intro f' o _ h _;omega
 |succ f ih=>
  intro f' o hm h1 h2
  match f',h2 with
  |0,h2=>omega
  |f'+1,h2=>
   simp only [roF]
   cases e:ntF s gi rs o most 1 with
   |none=>rfl
   |some q=>
    obtain ⟨_,q2,q3⟩:=ntF_sub hv h4 hm (q:=q.1) (u:=q.2) e;simp only [ih f' q.1 q2 (by omega) (by omega)]
theorem roF_len (hv:pvB s gi rs=true) (h4:most<=4):∀ f o,mvd o s=true->(roF s gi rs most f o).length<=sumTo o o.length:=by
 intro f
 induction f with
 |zero=>intro o _;exact Nat.zero_le _
 |succ f ih=>
  intro o hm;simp only [roF]
  cases e:ntF s gi rs o most 1 with
  |none=>exact Nat.zero_le _
  |some q=>
   obtain ⟨_,q2,q3⟩:=ntF_sub hv h4 hm (q:=q.1) (u:=q.2) e;have:=ih q.1 q2;simp only [List.length_cons];omega
theorem roF_mem (P:List Int->Prop) (hv:pvB s gi rs=true) (h4:most<=4) (hP:∀ o t,mvd o s=true->1<=t->t<=most->P o->P (nbL s gi rs o (t:Nat))):∀ f o,mvd o s=true->P o->∀ x∈roF s gi rs most f o,1<=x.1/\x.1<=most/\P x.2/\mvd x.2 s=true/\Sub x.2 o:=by
 intro f
 induction f with
 |zero=>intro o _ _ x hx;cases hx
 |succ f ih=>
  intro o hm h x hx;simp only [roF] at hx
  cases e:ntF s gi rs o most 1 with
  |none=>rw [e] at hx;cases hx
  |some q=>
   rw [e] at hx;obtain ⟨h1,h2,h3,_,_⟩:=ntF_some (q:=q.1) (u:=q.2) e;obtain ⟨q1,q2,_⟩:=ntF_sub hv h4 hm (q:=q.1) (u:=q.2) e;have hPq:P q.1:=(by rw [h3];exact hP o _ hm (by omega) (by omega) h)
   rcases List.mem_cons.1 hx with rfl|hx
   ·exact ⟨by dsimp only;omega,by dsimp only;omega,hPq,q2,q1⟩
   ·obtain ⟨a1,a2,a3,a4,a5⟩:=ih q.1 q2 hPq x hx;exact ⟨a1,a2,a3,a4,a5.trans q1⟩
def roE (s:Int) (gi:List Int) (rs:List RuleM) (most:Nat) (o:List Int):List (Nat×List Int):=roF s gi rs most (sumTo o o.length+1) o
theorem roE_none {o:List Int} (h:ntF s gi rs o most 1=none):roE s gi rs most o=[]:=by simp only [roE,roF,h]
theorem roE_some {o q:List Int} {u:Nat} (hv:pvB s gi rs=true) (h4:most<=4) (hm:mvd o s=true) (h:ntF s gi rs o most 1=some (q,u)):roE s gi rs most o=(u,q)::roE s gi rs most q:=by
 obtain ⟨_,q2,q3⟩:=ntF_sub hv h4 hm h;unfold roE;rw [show roF s gi rs most (sumTo o o.length+1) o=(u,q)::roF s gi rs most (sumTo o o.length) q from by simp only [roF,h]];rw [roF_fuel hv h4 (sumTo o o.length) (sumTo q q.length+1) q q2 (by omega) (by omega)]
theorem roE_len {o:List Int} (hv:pvB s gi rs=true) (h4:most<=4) (hm:mvd o s=true):(roE s gi rs most o).length<=480:=Nat.le_trans (roF_len hv h4 _ _ hm) (sum_480 hm)
theorem naE_ro {o:List Int} {r:Nat}:naE s gi rs most o r=(lastO o (roE s gi rs most o),r+(roE s gi rs most o).length):=naI_ro _ _ _
theorem roE_mem {o:List Int} (hv:pvB s gi rs=true) (h4:most<=4) (hm:mvd o s=true):∀ x∈roE s gi rs most o,1<=x.1/\x.1<=most/\mvd x.2 s=true/\Sub x.2 o:=fun x hx=>by
 obtain ⟨a,b,_,c,d⟩:=roF_mem (fun _=>True) hv h4 (fun _ _ _ _ _ _=>trivial) _ _ hm trivial x hx;exact ⟨a,b,c,d⟩
theorem roE_split (hv:pvB s gi rs=true) (h4:most<=4) {L:List (Nat×List Int)}:∀ (pre:List (Nat×List Int)) (o:List Int),mvd o s=true->roE s gi rs most o=pre++L->mvd (lastO o pre) s=true/\roE s gi rs most (lastO o pre)=L/\Sub (lastO o pre) o:=by
 intro pre
 induction pre with
 |nil=>intro o hm h;exact ⟨hm,h,Sub.of_mvd hm⟩
 |cons y pre ih=>
  intro o hm h
  cases e:ntF s gi rs o most 1 with
  |none=>rw [roE_none e] at h;cases h
  |some q=>
   obtain ⟨q1,q2,_⟩:=ntF_sub hv h4 hm (q:=q.1) (u:=q.2) e;rw [roE_some hv h4 hm (q:=q.1) (u:=q.2) e] at h
   injection h with h1 h2
   subst h1;obtain ⟨a,b,c⟩:=ih q.1 q2 h2;exact ⟨a,b,c.trans q1⟩
theorem roE_at (hv:pvB s gi rs=true) (h4:most<=4) {pre tl:List (Nat×List Int)} {o x:List Int} {t:Nat} (hm:mvd o s=true) (h:roE s gi rs most o=pre++(t,x)::tl):mvd (lastO o pre) s=true/\ntF s gi rs (lastO o pre) most 1=some (x,t)/\1<=t/\t<=most/\x=nbL s gi rs (lastO o pre) t/\x≠lastO o pre/\mvd x s=true/\Sub x (lastO o pre)/\roE s gi rs most x=tl:=by
 obtain ⟨a,b,_⟩:=roE_split hv h4 pre o hm h
 cases e:ntF s gi rs (lastO o pre) most 1 with
 |none=>rw [roE_none e] at b;cases b
 |some q=>
  obtain ⟨q1,q2,_⟩:=ntF_sub hv h4 a (q:=q.1) (u:=q.2) e;obtain ⟨h1,h2,h3,h5,_⟩:=ntF_some (q:=q.1) (u:=q.2) e;rw [roE_some hv h4 a (q:=q.1) (u:=q.2) e] at b
  injection b with b1 b2
  injection b1 with b1 b3
  subst b1 b3;exact ⟨a,rfl,h1,by omega,h3,h5,q2,q1,b2⟩
theorem ntF_more {o q:List Int} {u d d':Nat} (h:ntF s gi rs o d 1=some (q,u)) (hd:d<=d'):ntF s gi rs o d' 1=some (q,u):=by
 obtain ⟨h1,h2,h3,h4,h5⟩:=ntF_some h;exact ntF_at h5 h1 (by omega) h3 h4
theorem roE_more (hv:pvB s gi rs=true) {g:Nat} (hg:g<=most) (h4:most<=4):∀ (f:Nat) (o:List Int),mvd o s=true->sumTo o o.length<f->∃ L,roE s gi rs most o=roE s gi rs g o++L:=by
 intro f
 induction f with
 |zero=>intro o _ h;omega
 |succ f ih=>
  intro o hm hf
  cases e:ntF s gi rs o g 1 with
  |none=>exact ⟨_,by rw [roE_none e,List.nil_append]⟩
  |some q=>
   have e':=ntF_more (q:=q.1) (u:=q.2) e hg;obtain ⟨_,q2,q3⟩:=ntF_sub hv h4 hm e';obtain ⟨L,hL⟩:=ih q.1 q2 (by omega);exact ⟨L,by rw [roE_some hv h4 hm e',roE_some hv (by omega) hm (q:=q.1) (u:=q.2) e,hL,List.cons_append]⟩
end
end Go.Proofs.YtkeoflnmbcdmfaaGreatDoor
namespace Go.Proofs.YtkeoflnmbcdmfaaGreatDoor
open Go.ChangeShapes Go.WideShapes Go.ChangeAt Go.RowKit Go.Shelf
attribute [local go_sem] Oper.semAt_some
structure RBase (NB MB SB s L Br:Nat) (At:Option Addr) (nt ct Bt:Nat) (rs:List RuleM) (Am:Option Addr) (nm cm Bm:Nat) (ms:List Int) (most:Nat) (X:World):Prop where
 n:X.heap[NB]? =some (.cells #[.int .i64 s,.slice At nt ct] 94)
 m:X.cell? ⟨MB,0,none⟩=some (.slice Am nm cm)
 o:X.cell? ⟨SB,0,none⟩=some (.int .i64 most)
 t:4<=most->TbR X L Bt Br s rs At nt
 tB:Bt<=X.heap.size
 tr:Br<=Bt
 r:Rd X Bm Am nm ms
 rB:Bm<=X.heap.size
 z:Tz X
set_option maxHeartbeats 4000000 in
theorem rounds_seq (NB MB SB s L Br:Nat) (At:Option Addr) (nt ct Bt:Nat) (gi:List Int) (rs:List RuleM) (Am:Option Addr) (nm cm Bm:Nat) (m:List Int) (most:Nat) (hs:s∈[2,3,4]) (hv:pvB s gi rs=true) (hm:mvd m s=true) (h4:most<=4) (hml:m.length=nm):
 SeqT Tryz.prog 131 #[.pointer (some ⟨NB,0,none⟩),.pointer (some ⟨MB,0,none⟩),.pointer (some ⟨SB,0,none⟩)] (RBase NB MB SB s L Br At nt ct Bt rs Am nm cm Bm m most) (roE s gi rs most m):=by
 intro l J Jx W hJb hJs hJx hY h0;have HN:=Lib.hid (fun (pre:List (Nat×List Int)) (X:World) (hJ:J pre X) (A:Option Addr) (c B:Nat) (o:List Int) (hr:Rd X B A nm o) (hB:B<=X.heap.size) (ho:mvd o s=true)=>next_any s L Br At nt ct Bt gi rs A c nm B o most X (hJb _ _ hJ).t (hJb _ _ hJ).tB (hJb _ _ hJ).tr hr hB (hJb _ _ hJ).z hs hv ho h4);have HB:=Lib.hid (fun (pre:List (Nat×List Int)) (X:World) (hJ:J pre X)=>(⟨(hJb _ _ hJ).n,(hJb _ _ hJ).m,(hJb _ _ hJ).o⟩:X.heap[NB]? =some (.cells #[.int .i64 s,.slice At nt ct] 94)/\X.cell? ⟨MB,0,none⟩=some (.slice Am nm cm)/\X.cell? ⟨SB,0,none⟩=some (.int .i64 most)))
 have HN0:=Lib.hid (HN.out [] W h0 Am cm Bm m (hJb _ _ h0).r (hJb _ _ h0).rB hm);have Hi:=Lib.hid nar_info;have HJs:=Lib.hid hJs;have HJx:=Lib.hid hJx;have HY:=Lib.hid hY;have HAt:=Lib.hid (fun (pre tl:List (Nat×List Int)) (x:List Int) (t:Nat) (h:roE s gi rs most m=pre++(t,x)::tl)=>roE_at hv h4 hm h);have HSp:=Lib.hid (fun (o:List Int) (q:List Int×Nat) (ho:mvd o s=true) (hq:ntF s gi rs o most 1=some q)=>roE_some hv h4 ho (q:=q.1) (u:=q.2) hq);have HSu:=Lib.hid (fun (o:List Int) (q:List Int×Nat) (ho:mvd o s=true) (hq:ntF s gi rs o most 1=some q)=>(ntF_sub hv h4 ho (q:=q.1) (u:=q.2) hq))
 have HT1:=Lib.hid (fun (o:List Int) (q:List Int×Nat) (hq:ntF s gi rs o most 1=some q)=>(ntF_some (q:=q.1) (u:=q.2) hq).1);obtain ⟨b0,b1,b2⟩:=HB.out _ _ h0;have Hm:=Lib.hid hm;have H0:=Lib.hid h0;have Hml:=Lib.hid hml;clear hJb hJs hJx hY hv hm h0 hml
 show Calls Tryz.prog 131 #[.func (.yield l) #[] #[],.pointer (some ⟨NB,0,none⟩),.pointer (some ⟨MB,0,none⟩),.pointer (some ⟨SB,0,none⟩)] W _
 refine (callsIn_wide (n:=9)).1 ?_;refine callsIn_of_wp Tryz.func131 rfl trivial ?_ rfl;simp only [Tryz.ntmps131,List.size_toArray,List.length_cons,List.length_nil,Nat.reduceAdd,Nat.reduceSub,Array.replicate_succ,Array.replicate_zero,List.push_toArray,List.append_toArray,List.nil_append,List.cons_append]
 let St:List Int->Value->Value->World->Prop:=fun o lf te wr=>match ntF s gi rs o most 1 with
  |none=>lf=.slice none 0 0/\te=.int .i64 0
  |some q=>∃ b c,lf=.slice (some ⟨b,0,none⟩) nm c/\te=.int .i64 (q.2:Nat)/\W.heap.size<=b/\Ow wr W.heap.size (some ⟨b,0,none⟩) nm c q.1
 have HSt:Hid (∀ (o:List Int) (X wr:World) (e:Ending),W.heap.size<=X.heap.size->NextPost X nm (ntF s gi rs o most 1) e wr->∃ lf te,e=.returned (.tuple #[lf,te])/\St o lf te wr/\Below X.heap.size X wr):=Lib.hid (fun o X wr e hX h=>by
  show ∃ lf te,e=.returned (.tuple #[lf,te])/\(match ntF s gi rs o most 1 with
   |none=>lf=.slice none 0 0/\te=.int .i64 0
   |some q=>∃ b c,lf=.slice (some ⟨b,0,none⟩) nm c/\te=.int .i64 (q.2:Nat)/\W.heap.size<=b/\Ow wr W.heap.size (some ⟨b,0,none⟩) nm c q.1)/\Below X.heap.size X wr
  cases hq:ntF s gi rs o most 1 with
  |none=>rw [hq] at h;exact ⟨_,_,h.1,⟨rfl,rfl⟩,h.2⟩
  |some q=>
   rw [hq] at h;obtain ⟨⟨b,c,rfl,hb,ho⟩,hbl⟩:=h
   exact ⟨_,_,rfl,⟨b,c,rfl,rfl,by omega,ho.mono hX⟩,hbl⟩)
 gi_wp2_with (first
  |(refine wpListIn_load_row rfl 94 _ rfl NB rfl 94 #[.int .i64 s,.slice At nt ct] (0,0) _ b0 Tryz.underlying94 rfl (Hi.out _ _) ?_)
  |((try refine ⟨trivial,?_⟩);gi_at_call 132;refine (callsIn_wide.2 HN0.out).mono ?_;rintro e w1 hp;obtain ⟨lf,te,rfl,hst,hb1⟩:=HSt.out _ _ _ _ (Nat.le_refl _) hp;clear hp))
 clear b0 b1 b2
 gi_loopw [5,6] (fun lf te wr=>∃ pre o,Hid (J pre wr/\roE s gi rs most m=pre++roE s gi rs most o/\mvd o s=true/\W.heap.size<=wr.heap.size)/\St o lf te wr) (fun lf te wr=>if intOf te=0 then 0 else sumAt wr lf nm+1)
 case atStart=>exact ⟨[],m,Lib.hid ⟨HJs.out _ _ _ H0.out hb1,rfl,Hm.out,hb1.size⟩,hst⟩
 case round=>
  clear hst hb1;obtain ⟨pre,o,hh,hst⟩:=hrel
  cases hq:ntF s gi rs o most 1 with
  |none=>
   simp only [St,hq] at hst;obtain ⟨rfl,rfl⟩:=hst;have HD:=Lib.hid (show roE s gi rs most m=pre by rw [hh.out.2.1,roE_none hq,List.append_nil]);clear hq
   gi_wp2
   refine ⟨fun _ h=>(by cases h),?_⟩
   gi_wp2
   go_end0
   exact ⟨⟨_,rfl⟩,.inl (by rw [HD.out];exact hh.out.1)⟩
  |some q=>
   simp only [St,hq] at hst;obtain ⟨b,c,rfl,rfl,hbW,ho⟩:=hst;obtain ⟨q,t⟩:=q;have ht1:=HT1.out o (q,t) hq;have HE:=Lib.hid (HSp.out o (q,t) hh.out.2.2.1 hq);have HU:=Lib.hid (HSu.out o (q,t) hh.out.2.2.1 hq);have HD:=Lib.hid (show ∃ tl,roE s gi rs most m=pre++(t,q)::tl from ⟨_,by rw [hh.out.2.1,HE.out]⟩);obtain ⟨fn,tmps,assign,body,hyy,hR⟩:=HY.out pre t q wr b nm c hh.out.1 HD.out hbW ho;have htn:((t:Int) != 0)=true:=(by simp;omega);have hS0:=Lib.hid (sumAt_ow ho nm (Nat.le_refl _));have htz:¬ (t:Int)=0:=(by omega);clear hq
   gi_wp2
   refine (roundIn_any hR).mono ?_;rintro e Y ⟨hYs,hYb,(⟨rfl,hj⟩|⟨rfl,hx⟩)⟩
   ·have hoY:Ow Y W.heap.size (some ⟨b,0,none⟩) nm c q:=ho.same hYb;have HNq:=Lib.hid (HN.out _ Y hj (some ⟨b,0,none⟩) c Y.heap.size q hoY.rd (Nat.le_refl _) HU.out.2.1);have hWY:=Nat.le_trans hh.out.2.2.2 hYs;have HJ2:=Lib.hid hj;have HR2:=Lib.hid (show roE s gi rs most m=(pre++[(t,q)])++roE s gi rs most q by rw [hh.out.2.1,HE.out,List.append_assoc];rfl);obtain ⟨b0,b1,b2⟩:=HB.out _ _ hj;clear hyy hR hj hYb
    gi_wp2_with (first
     |(refine wpListIn_load_row rfl 94 _ rfl NB rfl 94 #[.int .i64 s,.slice At nt ct] (0,0) _ b0 Tryz.underlying94 rfl (Hi.out _ _) ?_)
     |((try refine ⟨trivial,?_⟩);gi_at_call 132;refine (callsIn_wide.2 HNq.out).mono ?_;rintro e w1 hp;obtain ⟨lf,te,rfl,hst,hb1⟩:=HSt.out _ _ _ _ hWY hp;clear hp))
    have hsz1:=hb1.size;have hqn:=hoY.len
    have hmeas:(if intOf te=0 then 0 else sumAt w1 lf nm+1)<sumTo q nm+1:=by
     cases hq2:ntF s gi rs q most 1 with
     |none=>
      simp only [St,hq2] at hst;obtain ⟨rfl,rfl⟩:=hst
      simp [intOf]
     |some q2=>
      simp only [St,hq2] at hst;obtain ⟨b2,c2,rfl,rfl,_,ho2⟩:=hst;have e1:=sumAt_ow ho2 nm (Nat.le_refl _);have e2:=(HSu.out q q2 HU.out.2.1 hq2).2.2;rw [ho2.len,hqn] at e2;rw [e1]
      split<;>omega
    have Hmeas:=Lib.hid hmeas;clear hmeas
    gi_wp2
    refine ⟨⟨pre++[(t,q)],q,Lib.hid ⟨HJs.out _ _ _ HJ2.out hb1,HR2.out,HU.out.2.1,by omega⟩,hst⟩,?_⟩;have e1:intOf (Value.int IntKind.i64 (t:Nat))=(t:Nat):=rfl;rw [e1,if_neg htz,hS0.out];exact Hmeas.out
   ·gi_wp2
    go_end0
    exact ⟨⟨_,rfl⟩,.inr hx⟩
theorem rounds_any (s:Nat) (At:Option Addr) (nt ct:Nat) (Am:Option Addr) (nm cm:Nat) (most:Nat) (w:World):
 Calls Tryz.prog 81 #[.agg #[.int .i64 s,.slice At nt ct],.slice Am nm cm,.int .i64 most] w fun e w'=>∃ NB MB SB,e=.returned (.func (.func 131) #[] #[.pointer (some ⟨NB,0,none⟩),.pointer (some ⟨MB,0,none⟩),.pointer (some ⟨SB,0,none⟩)])/\w'.heap[NB]? =some (.cells #[.int .i64 s,.slice At nt ct] 94)/\w'.cell? ⟨MB,0,none⟩=some (.slice Am nm cm)/\w'.cell? ⟨SB,0,none⟩=some (.int .i64 most)/\w.heap.size<=NB/\w.heap.size<=MB/\w.heap.size<=SB/\Below w.heap.size w w':=by
 obtain ⟨Wa,hWa⟩:∃ Wa,w.alloc (.cells #[.int .i64 s,.slice At nt ct] 94)=Wa:=⟨_,rfl⟩
 have hba:Below w.heap.size w Wa:=by rw [<- hWa];exact (Below.refl _ _).alloc (Nat.le_refl _) _
 have hsa:Wa.heap.size=w.heap.size+1:=by rw [<- hWa];simp
 have hra:Wa.heap[w.heap.size]? =some (.cells #[.int .i64 s,.slice At nt ct] 94):=by rw [<- hWa];exact heap_alloc_new w _
 obtain ⟨Wb,hWb⟩:∃ Wb,Wa.alloc (.cells #[.slice Am nm cm] 23)=Wb:=⟨_,rfl⟩
 have hbb:Below Wa.heap.size Wa Wb:=by rw [<- hWb];exact (Below.refl _ _).alloc (Nat.le_refl _) _
 have hsb:Wb.heap.size=w.heap.size+1+1:=by rw [<- hWb];simp [hsa]
 have hrb:Wb.heap[w.heap.size+1]? =some (.cells #[.slice Am nm cm] 23):=by rw [<- hWb,<-hsa];exact heap_alloc_new Wa _
 obtain ⟨Wc,hWc⟩:∃ Wc,Wb.alloc (.cells #[.int .i64 most] 3)=Wc:=⟨_,rfl⟩
 have hbc:Below Wb.heap.size Wb Wc:=by rw [<- hWc];exact (Below.refl _ _).alloc (Nat.le_refl _) _
 have hrc:Wc.heap[w.heap.size+1+1]? =some (.cells #[.int .i64 most] 3):=by rw [<- hWc,<-hsb];exact heap_alloc_new Wb _
 have HA:=Lib.hid ((hbc.block w.heap.size (by omega)).trans ((hbb.block w.heap.size (by omega)).trans hra));have HB:=Lib.hid (cell_of_row _ _ 0 _ _ (0,0) ((hbc.block (w.heap.size+1) (by omega)).trans hrb));have HC:=Lib.hid (cell_of_row _ _ 0 _ _ (0,0) hrc);have HD:=Lib.hid ((hba.trans (hbb.mono (by omega))).trans (hbc.mono (by omega)));clear hba hra hbb hrb hbc hrc
 go_enter Tryz.func81,Tryz.ntmps81
 go_wp2
 go_ret
 exact ⟨w.heap.size,w.heap.size+1,w.heap.size+1+1,rfl,HA.out,HB.out,HC.out,by omega,by omega,by omega,HD.out⟩
end Go.Proofs.YtkeoflnmbcdmfaaGreatDoor
