import Derived.Test.YtkeoflnmbcdmfaaGreatDoorHBNx
set_option maxRecDepth 8000
namespace Go.Proofs.YtkeoflnmbcdmfaaGreatDoor
open Go.ChangeShapes Go.WideShapes Go.ChangeAt Go.RowKit
theorem hC_mono (m:List Int) (S u:Int) (v:Nat) {k k':Nat} (h:k<=k'):hC m S u v k<=hC m S u v k':=by
 induction h with
 |refl=>exact Nat.le_refl _
 |step _ ih=>simp only [hC];split<;>omega
def qV (m:List Int) (S:Int) (N:Nat) (u:Int):Nat->List (Nat×Nat)
 |0=>[]
 |r+1=>if hC m S u (r+1) N=1 then qV m S N u r++[(hL m S u (r+1) N,r+1)] else qV m S N u r
def qU (m:List Int) (S:Int) (N:Nat):Nat->List (Nat×Nat)
 |0=>[]
 |u+1=>qU m S N u++qV m S N u N
def keepQ (o:List Int) (p:Nat×Nat):List Int:=o.set p.1 (bits .and .i64 (nth o p.1) (2^p.2))
theorem qV_fold (m:List Int) (S:Int) (N:Nat) (u:Int) (o:List Int) (r:Nat):(qV m S N u r).foldl keepQ o=hVs m S N u o r:=by
 induction r with
 |zero=>rfl
 |succ r ih=>
  simp only [qV,hVs]
  split
  ·rw [List.foldl_append,ih];rfl
  ·exact ih
theorem qU_fold (m:List Int) (S:Int) (N u:Nat):(qU m S N u).foldl keepQ m=hU m S N u:=by
 induction u with
 |zero=>rfl
 |succ u ih=>simp only [qU,hU];rw [List.foldl_append,ih,qV_fold]
theorem qV_len (m:List Int) (S:Int) (N:Nat) (u:Int) (r:Nat):(qV m S N u r).length<=r:=by
 induction r with
 |zero=>exact Nat.le_refl _
 |succ r ih=>
  simp only [qV]
  split
  ·simp;omega
  ·omega
theorem qU_len (m:List Int) (S:Int) (N u:Nat):(qU m S N u).length<=u*N:=by
 induction u with
 |zero=>simp [qU]
 |succ u ih=>simp only [qU,List.length_append];have:=qV_len m S N u N;rw [Nat.succ_mul];omega
theorem qV_in {m:List Int} {S u:Int} {N n:Nat} (hat:∀ j,j<N->(lineAt S u j).toNat<n) (h0:0<n) (r:Nat):∀ p∈qV m S N u r,p.1<n/\1<=p.2/\p.2<=r:=by
 induction r with
 |zero=>intro p hp;simp [qV] at hp
 |succ r ih=>
  intro p hp;simp only [qV] at hp
  split at hp
  ·rcases List.mem_append.1 hp with h|h
   ·have:=ih p h;omega
   ·rw [List.mem_singleton] at h;subst h;exact ⟨hL_lt hat h0,by simp,by simp⟩
  ·have:=ih p hp;omega
theorem qU_in {m:List Int} {S:Int} {N n U:Nat} (hat:∀ u:Nat,u<U->∀ j,j<N->(lineAt S u j).toNat<n) (h0:0<n) (u:Nat) (hu:u<=U):∀ p∈qU m S N u,p.1<n/\1<=p.2/\p.2<=N:=by
 induction u with
 |zero=>intro p hp;simp [qU] at hp
 |succ u ih=>
  intro p hp;simp only [qU] at hp
  rcases List.mem_append.1 hp with h|h
  ·exact ih (by omega) p h
  ·exact qV_in (hat u (by omega)) h0 N p h
def fl (q:List (Nat×Nat)):List Value:=q.flatMap (fun p=>[.int .i64 (p.1:Int),.int .i64 (p.2:Int)])
theorem fl_len (q:List (Nat×Nat)):(fl q).length=q.length*2:=by
 induction q with
 |nil=>rfl
 |cons a q ih=>
  have:fl (a::q)=[.int .i64 (a.1:Int),.int .i64 (a.2:Int)]++fl q:=rfl;rw [this,List.length_append,ih,List.length_cons];simp;omega
theorem fl_app (q q':List (Nat×Nat)):fl (q++q')=fl q++fl q':=by simp [fl]
theorem fl_get {q:List (Nat×Nat)} {k:Nat} (h:k<q.length):(fl q)[k*2]? =some (.int .i64 (q[k].1:Int))/\(fl q)[k*2+1]? =some (.int .i64 (q[k].2:Int)):=by
 induction q generalizing k with
 |nil=>simp at h
 |cons a q ih=>
  have e:fl (a::q)=.int .i64 (a.1:Int)::.int .i64 (a.2:Int)::fl q:=rfl;rw [e]
  cases k with
  |zero=>simp
  |succ k=>
   have h':k<q.length:=(by simpa using h);rw [show (k+1)*2=k*2+1+1 by omega]
   simpa using ih h'
def OwF (w:World) (lo:Nat) (A:Option Addr) (n c:Nat) (q:List (Nat×Nat)):Prop:=w.ownsRow lo 197 2 (.slice A n c) n (fl q)
theorem OwF.below {w w':World} {lo n c:Nat} {A:Option Addr} {q:List (Nat×Nat)} (h:OwF w lo A n c q) (hb:Below w.heap.size w w'):OwF w' lo A n c q:=
 World.ownsRow.kept h (row:=none) ⟨hb.os,hb.tape,hb.output,hb.size,fun k hk _=>hb.block k hk⟩ (by
  cases e:(Value.slice A n c).ownBlock
  ·exact .inl rfl
  ·exact .inr (by simp))
theorem found_info:(Tryz.prog.info? 197).map (fun i=>(i.zero,i.size,i.bytes))=some (some (.agg #[.int .i64 0,.int .i64 0]),2,16):=by kernel_rfl
theorem push_found {w:World} {ops:Array Oper} {rest:List Oper} {o:Oper} {a:Act} {Q:Exit->Act->World->Prop} (hgd:o.guard=none) (s x:Operand)
 (ho:o.op=.call { callee:=.builtin .append,args:= #[s,x],argTypes:= #[194,194] })
 (lo:Nat) (A:Option Addr) (n c:Nat) (q:List (Nat×Nat)) (p v:Nat) (hs:a.eval s=.slice A n c) (hx:a.eval x=.slice (some ⟨w.heap.size,0,none⟩) 1 1) (hown:OwF w lo A n c q) (hn:n<=1099511627776) (hlo:lo<=w.heap.size)
 (h:∀ A' c' w',OwF w' lo A' (n+1) c' (q++[(p,v)])->(w.alloc (.cells #[.int .i64 (p:Int),.int .i64 (v:Int)] 197)).grownBy w' (Value.slice A n c).ownBlock->wpList Tryz.prog ops Q rest (a.put o.dst (.slice A' (n+1) c')) w'):
 wpList Tryz.prog ops Q (o::rest) a (w.alloc (.cells #[.int .i64 (p:Int),.int .i64 (v:Int)] 197)):=by
 obtain ⟨i0,hi,hz0,hz1,hz2⟩:=info_parts found_info;refine wpList_append_own (P:=Tryz.prog) _ hgd s x 194 ho lo 197 i0 (.agg #[.int .i64 0,.int .i64 0]) 2 16 Tryz.underlying194 hi hz0 hz1 hz2 rfl (by decide) _ n (fl q) hs (World.ownsRow.alloc hown _) ⟨w.heap.size,0,none⟩ 1 1 [.int .i64 (p:Int),.int .i64 (v:Int)] hx rfl ?_ ?_ (by simp only [maxLen];omega) (by omega) (by simp;omega) ?_
 ·intro j u hj
  match j,hj with
  |0,hj=>
   simp at hj
   subst hj
   simp [Addr.add]
  |1,hj=>
   simp at hj
   subst hj
   simp [Addr.add]
 ·intro u hu
  simp at hu
  rcases hu with rfl|rfl<;>rfl
 ·intro v' w' h2 h3 _;obtain ⟨g,cap,hv,_,_⟩:=World.ownsRow.form h2 (by omega);subst hv;exact h _ _ _ (by unfold OwF;rw [fl_app];exact h2) h3
set_option maxHeartbeats 1000000 in
theorem onlyPlace_any (A:Option Addr) (c n B:Nat) (m:List Int) (Ac:Option Addr) (cc N Bc:Nat) (S u:Int) (v:Nat) (w:World) (h:Rd w B A n m) (hc:Rd w Bc Ac N (lineTo S u N)) (hBm:B<=w.heap.size) (hBc:Bc<=w.heap.size) (hN:N<=4) (hat:Hid (∀ j,j<N->∃ q:Nat,lineAt S u j=(q:Int)/\q<n)) (hrng:Hid (∀ k,k<n->0<=nth m k/\nth m k<=30)) (hv:v<=4):
 Calls Tryz.prog 201 #[.slice A n c,.slice Ac N cc,.int .i64 v] w fun e w'=>(∃ p:Nat,e=.returned (.tuple #[.int .i64 p,.bool (hC m S u v N==1)])/\(hC m S u v N=1->p=hL m S u v N))/\Below w.heap.size w w':=by
 go_enter Tryz.func201,Tryz.ntmps201
 go_wp2
 go_loopw [8,9,14] (fun pl fo i wr=>∃ k p:Nat,k<=N/\i=.int .i64 k/\hC m S u v k<=1/\pl=.int .i64 p/\fo=.bool (hC m S u v k==1)/\Hid (hC m S u v k=1->p=hL m S u v k)/\Below w.heap.size w wr) (fun _ _ i _=>N-(intOf i).toNat)
 case atStart=>exact ⟨0,0,Nat.zero_le _,rfl,Nat.zero_le _,rfl,rfl,Lib.hid (fun h=>by simp [hC] at h),Below.refl _ _⟩
 case round=>
  obtain ⟨k,p,hk,rfl,hle,rfl,rfl,hp,hb⟩:=hrel
  by_cases hlt:k<N
  ·obtain ⟨q,hq,hqn⟩:=hat.out k hlt;obtain ⟨b,off,rfl,hbB,hck⟩:=(hc.below (hb.mono hBc)).at_ hlt;rw [show nth (lineTo S u N) k=(q:Int) by rw [<- hq];simp [lineTo,nth,List.getD_eq_getElem?_getD,hlt]] at hck;obtain ⟨b',off',rfl,hbB',hcm⟩:=(h.below (hb.mono hBm)).at_ hqn;obtain ⟨x0,x1⟩:=hrng.out q hqn;obtain ⟨M,hM⟩:=Int.eq_ofNat_of_zero_le x0;rw [hM] at hcm x1;have hsh:=and_pow0 M v (by omega) hv;have hbit:hB m S u v k=M.testBit v:=(by simp only [hB,hq,Int.toNat_natCast];rw [hM];simp);have hvs:v<64:=(by omega);cases hh:M.testBit v
   ·rw [hh] at hsh hbit;have H1:=Lib.hid (show hC m S u v (k+1)=hC m S u v k by simp [hC,hbit]);have H2:=Lib.hid (show hL m S u v (k+1)=hL m S u v k by simp [hL,hbit]);clear hh hbit hM hq x0
    go_wp2
    go_quiet (fail)
    go_wp2
    go_roundw
    case rel=>exact ⟨k+1,p,by omega,by go_num,by rw [H1.out];exact hle,rfl,by rw [H1.out],Lib.hid (by rw [H1.out,H2.out];exact hp.out),below_drewN hb _⟩
    case measure=>simp [intOf];omega
   ·rw [hh] at hsh hbit;have H1:=Lib.hid (show hC m S u v (k+1)=hC m S u v k+1 by simp [hC,hbit]);have H2:=Lib.hid (show hL m S u v (k+1)=q by simp [hL,hbit,hq]);clear hh hbit hM hq x0
    by_cases h1:hC m S u v k=1
    ·have Hf:=Lib.hid (show hC m S u v N≠1 by have:=hC_mono m S u v (show k+1<=N by omega);rw [H1.out] at this;omega);have f1:(hC m S u v k==1)=true:=(by simp [h1]);rw [f1];clear h1 f1
     go_wp2
     go_quiet (fail)
     go_wp2
     go_ret2
     exact ⟨⟨0,by rw [show (hC m S u v N==1)=false by simp [Hf.out]];rfl,fun h=>absurd h Hf.out⟩,below_drewN hb _⟩
    ·have h0:=Lib.hid (show hC m S u v k=0 by omega);have f1:(hC m S u v k==1)=false:=(by simp [h1]);rw [f1];clear h1 f1
     go_wp2
     go_quiet (fail)
     go_wp2
     go_roundw
     case rel=>exact ⟨k+1,q,by omega,by go_num,by rw [H1.out,h0.out];exact Nat.le_refl _,rfl,by rw [H1.out,h0.out];rfl,Lib.hid (fun _=>H2.out.symm),below_drewN hb _⟩
     case measure=>simp [intOf];omega
  ·obtain rfl:k=N:=by omega
   obtain ⟨bb,hbb⟩:∃ bb,(hC m S u v k==1)=bb:=⟨_,rfl⟩;rw [hbb]
   go_wp2
   go_ret2
   exact ⟨⟨p,by rw [hbb];rfl,hp.out⟩,hb⟩
theorem qV_step {m:List Int} {S u:Int} {N v:Nat} (h:1<=v):qV m S N u v=if hC m S u v N=1 then qV m S N u (v-1)++[(hL m S u v N,v)] else qV m S N u (v-1):=by
 obtain ⟨r,rfl⟩:∃ r,v=r+1:=⟨v-1,by omega⟩;rfl
theorem line_in {s u:Nat} (hs:s∈[2,3,4]) (hu:u<2*s):∀ j,j<s->∃ q:Nat,lineAt s u j=(q:Int)/\q<s*s:=by
 intro j hj
 simp at hs
 by_cases hx:(u:Int)<(s:Int)
 ·rw [lineAt_row hx];refine ⟨u*s+j,by simp,?_⟩
  rcases hs with rfl|rfl|rfl<;>omega
 ·rw [lineAt_col hx];refine ⟨j*s+u-s,?_,?_⟩
  ·rcases hs with rfl|rfl|rfl<;>omega
  ·rcases hs with rfl|rfl|rfl<;>omega
set_option maxHeartbeats 2000000 in
theorem hiddenIn_any (A:Option Addr) (c n B:Nat) (m:List Int) (s:Nat) (w:World) (h:Rd w B A n m) (hBm:B<=w.heap.size) (hs:s∈[2,3,4]) (hn:n=s*s) (hrng:Hid (∀ k,k<n->0<=nth m k/\nth m k<=30)):
 Calls Tryz.prog 195 #[.slice A n c,.int .i64 s] w fun e w'=>∃ A' c',e=.returned (.slice A' (qU m s s (2*s)).length c')/\OwF w' w.heap.size A' (qU m s s (2*s)).length c' (qU m s s (2*s))/\Below w.heap.size w w':=by
 have hs2:2<=s:=by simp at hs;omega
 have hs4:s<=4:=by simp at hs;omega
 have Hs:=Lib.hid hs;have Hn:=Lib.hid hn;obtain ⟨T,hT⟩:∃ T,T=2*s:=⟨_,rfl⟩;rw [<- hT];have HT:=Lib.hid hT
 have hT8:T<=8:=by omega
 clear hs hn hT
 go_enter Tryz.func195,Tryz.ntmps195
 go_wp2
 go_loopw [5,13] (fun qv i wr=>∃ (u k:Nat) (A':Option Addr) (c':Nat),u<=T/\i=.int .i64 u/\qv=.slice A' k c'/\Hid ((qU m s s u).length=k)/\OwF wr w.heap.size A' k c' (qU m s s u)/\Below w.heap.size w wr) (fun _ i _=>T-(intOf i).toNat)
 case atStart=>exact ⟨0,0,none,0,Nat.zero_le _,rfl,rfl,Lib.hid rfl,World.ownsRow_nil _ _ _ _,Below.refl _ _⟩
 case round=>
  obtain ⟨u,k,A',c',hu,rfl,rfl,hk,ho,hb⟩:=hrel
  by_cases hlt:u<T
  ·have hltI:(u:Int)<2*(s:Int):=by have:=HT.out;omega
   have HLc:Hid (Calls Tryz.prog 196 #[.int .i64 s,.int .i64 u] wr fun e w''=>∃ A3 c3,e=.returned (.slice A3 s c3)/\Ow w'' wr.heap.size A3 s c3 (lineTo s u s)/\Below wr.heap.size wr w''):=Lib.hid ((implLineCells s u wr ⟨by omega,by omega⟩).mono (by
       rintro e w'' ⟨A3,c3,rfl,ho3,hb3⟩
       have e1:lineL s u=lineTo s u s:=by
        have:lineOk s u=true:=(by have:=HT.out;simp [lineOk,inr];omega)
        simp [lineL,this]
       rw [e1,lineTo_length] at ho3;rw [e1,lineTo_length]
       exact ⟨A3,c3,rfl,ho3,hb3⟩))
   have hat:=Lib.hid (show ∀ j,j<s->∃ q:Nat,lineAt s u j=(q:Int)/\q<n by rw [Hn.out];exact line_in Hs.out (by have:=HT.out;omega));have hsw:=hb.size
   go_wp2_with (go_at_call 196;refine HLc.out.mono ?_;rintro e w3 ⟨A3,c3,rfl,ho3,hb3⟩)
   have hoq:=ho.below hb3;have hbq:=hb.trans (hb3.mono hsw);have ho3':=ho3.mono hsw
   go_loopw [5,8] (fun qv i wr=>∃ (v k:Nat) (A':Option Addr) (c':Nat),1<=v/\v<=s+1/\i=.int .i64 v/\qv=.slice A' k c'/\Hid ((qU m s s u++qV m s s u (v-1)).length=k)/\OwF wr w.heap.size A' k c' (qU m s s u++qV m s s u (v-1))/\Ow wr w.heap.size A3 s c3 (lineTo s u s)/\Below w.heap.size w wr) (fun _ i _=>s+1-(intOf i).toNat)
   case atStart=>exact ⟨1,k,A',c',by omega,by omega,rfl,rfl,Lib.hid (by simp only [Nat.sub_self,qV,List.append_nil];exact hk.out),by simp only [Nat.sub_self,qV,List.append_nil];exact hoq,ho3',hbq⟩
   case round=>
    clear ho hoq hbq ho3 ho3' hb3 hb HLc hk;obtain ⟨v,k,A',c',hv1,hv2,rfl,rfl,hk,ho,ho3,hb⟩:=hrel;have hsw:=hb.size
    by_cases hvs:v<=s
    ·have hvI:(v:Int)<=(s:Int):=(by omega);have HOP:=Lib.hid (onlyPlace_any A c n B m A3 c3 s wr.heap.size s u v wr (h.below (hb.mono hBm)) ho3.rd (Nat.le_trans hBm hb.size) (Nat.le_refl _) hs4 hat hrng (by omega))
     have hk8:k<=1099511627776:=by
      have q1:=hk.out;have q2:=qU_len m s s u;have q3:=qV_len m s s u (v-1);have q4:u*s<=8*4:=Nat.mul_le_mul (by omega) hs4;rw [List.length_append] at q1;omega
     by_cases h1:hC m s u v s=1
     ·have f1:(hC m s u v s==1)=true:=(by simp [h1]);have HQ:=Lib.hid (show qV m s s u v=qV m s s u (v-1)++[(hL m s u v s,v)] by rw [qV_step hv1,if_pos h1]);have H1:=Lib.hid h1;clear h1
      go_wp2_with (first
       |(go_at_call 201;refine HOP.out.mono ?_;rintro e w3 ⟨⟨p,rfl,hp⟩,hb3⟩;rw [f1];have ho5:=ho.below hb3;have hp':=Lib.hid (hp H1.out);clear hp;have hs3:=Nat.le_trans hsw hb3.size)
       |(at_builtin;refine push_found rfl (.tmp 32) (.tmp 36) rfl w.heap.size A' k c' _ p v rfl rfl ho5 hk8 hs3 ?_;intro A5 c5 w5 ho6 hg6))
      have ho36:=ow_own (World.ownsRow.alloc (ho3.below hb3) _) (World.ownsRow.alloc ho5 _) (by decide) hg6;have hb6:Below w.heap.size w w5:=((hb.trans (hb3.mono hsw)).alloc hs3 _).grown hg6 (by simp;omega) (fun g hg=>(World.ownsRow.lt ho5 g hg).1)
      go_roundw
      case rel=>exact ⟨v+1,k+1,A5,c5,by omega,by omega,by go_num,rfl,Lib.hid (by rw [Nat.add_sub_cancel,HQ.out,<-List.append_assoc,List.length_append,hk.out];rfl),by rw [Nat.add_sub_cancel,HQ.out,<-List.append_assoc,<-hp'.out];exact ho6,ho36,hb6⟩
      case measure=>simp [intOf];omega
     ·have f1:(hC m s u v s==1)=false:=(by simp [h1]);have HQ:=Lib.hid (show qV m s s u v=qV m s s u (v-1) by rw [qV_step hv1,if_neg h1]);clear h1
      go_wp2_with (go_at_call 201;refine HOP.out.mono ?_;rintro e w3 ⟨⟨p,rfl,_⟩,hb3⟩;rw [f1])
      go_roundw
      case rel=>exact ⟨v+1,k,A',c',by omega,by omega,by go_num,rfl,Lib.hid (by rw [Nat.add_sub_cancel,HQ.out];exact hk.out),by rw [Nat.add_sub_cancel,HQ.out];exact ho.below hb3,ho3.below hb3,step hb hb3⟩
      case measure=>simp [intOf];omega
    ·obtain rfl:v=s+1:=by omega
     have hvI:((s+1:Nat):Int)=(s:Int)+1:=(by simp);rw [Nat.add_sub_cancel] at hk ho
     go_wp2
     go_roundw
     case rel=>exact ⟨u+1,k,A',c',by omega,by go_num,rfl,hk,ho,hb⟩
     case measure=>simp [intOf];omega
  ·have hltI:¬ (u:Int)<2*(s:Int):=by have:=HT.out;omega
   obtain rfl:u=T:=by omega
   go_wp2
   go_ret
   rw [hk.out];exact ⟨_,_,rfl,ho,hb⟩
theorem OwF.set {w:World} {lo lo' g n c n' c' j:Nat} {A:Option Addr} {q:List (Nat×Nat)} {xs:List Int} (h:OwF w lo A n c q) (ho:Ow w lo' (some ⟨g,0,none⟩) n' c' xs) (v:Value):OwF (w.setCell ⟨g,j,none⟩ v) lo A n c q:=by
 refine World.ownsRow.kept h (row:=some g) grown_set ?_
 rcases h.2 with ⟨e1,_⟩|⟨g1,cap1,cur1,e1,_,hr1,_⟩
 ·rw [e1];exact .inl rfl
 ·refine .inr (fun e2=>?_);rw [e1] at e2
  have e3:g1=g:=by simpa [Value.ownBlock] using e2
  subst e3
  rcases ho.2 with ⟨e4,_⟩|⟨g2,cap2,cur2,e4,_,hr2,_⟩
  ·cases e4
  ·injection e4 with e4 _ _
   injection e4 with e4
   injection e4 with e4 _ _
   subst e4;rw [hr1] at hr2
   injection hr2 with hr2
   injection hr2 with _ h2 _
   exact absurd h2 (by decide)
theorem OwF.cells {w:World} {lo n c:Nat} {A:Option Addr} {q:List (Nat×Nat)} (h:OwF w lo A n c q) {k:Nat} (hk:k<n):∃ g,A=some ⟨g,0,none⟩/\g<w.heap.size/\w.cell? ⟨g,k*2,none⟩=some (.int .i64 ((q.getD k (0,0)).1:Int))/\w.cell? ⟨g,k*2+1,none⟩=some (.int .i64 ((q.getD k (0,0)).2:Int)):=by
 obtain ⟨g,cap,hv,_,hg⟩:=World.ownsRow.form h (by omega)
 injection hv with hA _ _
 subst hA;have hl:=h.1;rw [fl_len] at hl
 have hkq:k<q.length:=by omega
 have e:=fl_get hkq
 have hd:q.getD k (0,0)=q[k]:=by simp [List.getD_eq_getElem?_getD,hkq]
 refine ⟨g,rfl,hg,?_,?_⟩
 ·rw [hd,World.ownsRow.cellAt h (k*2) (by omega)];exact e.1
 ·rw [hd,World.ownsRow.cellAt h (k*2+1) (by omega)];exact e.2
set_option maxHeartbeats 2000000 in
theorem implNarrowHidden (A:Option Addr) (c n B:Nat) (m:List Int) (size:Int) (w:World) (h:Rd w B A n m) (hm64:B64 m) (hBm:B<=w.heap.size) (hm:n<=1099511627776) (hsb: -9223372036854775808<=size/\size<=9223372036854775807):
 Calls Tryz.prog 187 #[.slice A n c,.int .i64 size] w (RetSl w (nhL m size)):=by
 have hlen:=Lib.hid h.1;have HV:=Lib.hid (implMasksValid A c n B m size w h hm64 hBm hm hsb);cases hv:mvd m size
 ·have HL:=Lib.hid (show nhL m size=[] by simp [nhL,hv])
  go_enter Tryz.func187,Tryz.ntmps187
  go_wp2_with (go_at_call 83;refine HV.out.mono ?_;rintro e w1 ⟨rfl,hb1⟩;rw [hv])
  go_ret
  rw [HL.out];exact ⟨_,_,rfl,Ow.nil_ _ _,hb1⟩
 ·obtain ⟨⟨s2,s4⟩,hsq,hn16,hrng⟩:=mvd_at hv;rw [hlen.out] at hsq hn16 hrng;obtain ⟨s,rfl⟩:=Int.eq_ofNat_of_zero_le (by omega:0<=size)
  have hs:s∈[2,3,4]:=by simp;omega
  have hn:n=s*s:=by
   have:(n:Int)=((s*s:Nat):Int):=(by simpa using hsq);omega
  have hn0:0<n:=by
   simp at hs
   rcases hs with rfl|rfl|rfl<;>omega
  have Hrng:=Lib.hid (fun k (hk:k<n)=>(⟨(hrng k hk).1,(hrng k hk).2.1⟩:0<=nth m k/\nth m k<=30));have HCl:=Lib.hid (fun w' (hb:Below w.heap.size w w')=>clone_any A n c B m w' (h.below (hb.mono hBm)) (Nat.le_trans hBm hb.size) hn0 hm);have HHi:=Lib.hid (fun w' (hb:Below w.heap.size w w')=>hiddenIn_any A c n B m s w' (h.below (hb.mono hBm)) (Nat.le_trans hBm hb.size) hs hn Hrng)
  have Hin:=Lib.hid (qU_in (m:=m) (S:=s) (N:=s) (n:=n) (U:=2*s) (fun u hu j hj=>by
   obtain ⟨q,hq,hqn⟩:=line_in hs hu j hj
   rw [hq,hn];simpa using hqn) hn0 (2*s) (Nat.le_refl _))
  have HQ8:=Lib.hid (show (qU m s s (2*s)).length<=32 by have:=qU_len m s s (2*s);have:2*s*s<=8*4:=Nat.mul_le_mul (by omega) (by omega);omega);have HF:=Lib.hid (show nhL m s=(qU m s s (2*s)).foldl keepQ m by rw [qU_fold];simp [nhL,hv])
  have hs4':s<=4:=by omega
  obtain ⟨q,hq⟩:∃ q,q=qU m s s (2*s):=⟨_,rfl⟩;rw [<- hq] at HHi Hin HQ8 HF;obtain ⟨K,hK⟩:∃ K,K=q.length:=⟨_,rfl⟩;rw [<- hK] at HHi HQ8;have HK:=Lib.hid hK;have hK32:=HQ8.out;clear hrng hsq hq hK hn hs
  go_enter Tryz.func187,Tryz.ntmps187
  go_wp2_with (first
   |(go_at_call 83;refine HV.out.mono ?_;rintro e w1 ⟨rfl,hb1⟩;rw [hv])
   |(go_at_call 70;refine (HCl.out _ hb1).mono ?_;rintro e w2 ⟨Ac,cc,rfl,ho2,hb2⟩;have hb12:=step hb1 hb2)
   |(go_at_call 195;refine (HHi.out _ hb12).mono ?_;rintro e w3 ⟨Aq,cq,rfl,hoq,hb3⟩))
  have hb13:=step hb12 hb3;have ho3:=(ho2.mono hb1.size).below hb3;have hoq':OwF w3 w.heap.size Aq K cq q:=World.ownsRow.mono hoq hb12.size;obtain ⟨g,rfl,hgl,hgw⟩:=ho3.form hn0
  go_loopw [18] (fun i wr=>∃ k:Nat,k<=K/\i=.int .i64 k/\Ow wr w.heap.size (some ⟨g,0,none⟩) n cc ((q.take k).foldl keepQ m)/\OwF wr w.heap.size Aq K cq q/\Below w.heap.size w wr) (fun i _=>K-(intOf i).toNat)
  case atStart=>exact ⟨0,Nat.zero_le _,rfl,ho3,hoq',hb13⟩
  case round=>
   clear ho3 hoq hoq' hb13 hb12 hb1 hb2 hb3 ho2;obtain ⟨k,hk,rfl,ho,hof,hb⟩:=hrel
   by_cases hlt:k<K
   ·obtain ⟨gq,rfl,hgq,hcx,hcy⟩:=hof.cells hlt;have hkq:k<q.length:=(by rw [<- HK.out];exact hlt)
    have hmem:q.getD k (0,0)∈q:=by
     rw [List.getD_eq_getElem?_getD,List.getElem?_eq_getElem hkq];exact List.getElem_mem _
    obtain ⟨hx,hy1,hy4⟩:=Hin.out _ hmem
    have HT:=Lib.hid (show (q.take (k+1)).foldl keepQ m=((q.take k).foldl keepQ m).set (q.getD k (0,0)).1 (bits .and .i64 (nth ((q.take k).foldl keepQ m) (q.getD k (0,0)).1) (2^(q.getD k (0,0)).2)) by
     rw [List.take_add_one,List.getElem?_eq_getElem hkq]
     simp only [Option.toList_some,List.foldl_append,List.foldl_cons,List.foldl_nil,keepQ,List.getD_eq_getElem?_getD,List.getElem?_eq_getElem hkq,Option.getD_some])
    obtain ⟨x,hxe⟩:∃ x,x=(q.getD k (0,0)).1:=⟨_,rfl⟩;obtain ⟨y,hye⟩:∃ y,y=(q.getD k (0,0)).2:=⟨_,rfl⟩;rw [<- hxe] at hcx hx HT;rw [<- hye] at hcy hy1 hy4 HT;obtain ⟨o,hoe⟩:∃ o,o=(q.take k).foldl keepQ m:=⟨_,rfl⟩;rw [<- hoe] at ho HT;clear hxe hye hmem hoe;obtain ⟨hcell,hfr⟩:=ho.cell hx
    have hw2:wrap64 ((2:Int)^y)=2^y:=by
     obtain ⟨r,rfl⟩:∃ r,y=r+1:=⟨y-1,by omega⟩;exact pow_wrap5 (by omega)
    have hy64:y<64:=(by omega);have hgr:=ho.own_hi g rfl;obtain ⟨W,hW⟩:∃ W,wr.alloc (.cells #[.int .i64 (x:Int),.int .i64 (y:Int)] 197)=W:=⟨_,rfl⟩;have hoW:Ow W w.heap.size (some ⟨g,0,none⟩) n cc o:=(by rw [<- hW];exact World.ownsRow.alloc ho _);have hofW:OwF W w.heap.size (some ⟨gq,0,none⟩) K cq q:=(by rw [<- hW];exact World.ownsRow.alloc hof _);have hbW:Below w.heap.size w W:=(by rw [<- hW];exact hb.alloc hb.size _);have hz0:W.cell? ⟨wr.heap.size,0,none⟩=some (.int .i64 (x:Int)):=(by rw [<- hW];exact cell_of_row _ _ 0 _ _ (0,0) (heap_alloc_new wr _));have hz1:W.cell? ⟨wr.heap.size,1,none⟩=some (.int .i64 (y:Int)):=(by rw [<- hW];exact cell_of_row _ _ 1 _ _ (0,0) (heap_alloc_new wr _));obtain ⟨hcW,hfW⟩:=hoW.cell hx;have hput:=Lib.hid (hoW.putN x (bits .and .i64 (nth o x) (2^y)));have hofp:=Lib.hid (hofW.set (j:=x) hoW (.int .i64 (bits .and .i64 (nth o x) (2^y))));have hbp:=Lib.hid (Below.setCell (p:=(⟨g,x,none⟩:Addr)) hbW hgl (.int .i64 (bits .and .i64 (nth o x) (2^y))));have HW:=Lib.hid hW;clear hW hofW hoW hbW
    go_wp2
    rw [HW.out]
    go_region
    go_wp2
    go_roundw
    case rel=>exact ⟨k+1,by omega,by go_num,by rw [HT.out];exact hput.out,hofp.out,below_drewN hbp.out 1⟩
    case measure=>simp [intOf];omega
   ·obtain rfl:k=K:=by omega
    rw [show q.take k=q by rw [HK.out];exact List.take_length] at ho
    go_wp2
    go_ret
    rw [HF.out];exact retSl_mk ho hb
def roF (s:Int) (gi:List Int) (rs:List RuleM) (most:Nat):Nat->List Int->List (Nat×List Int)
 |0,_=>[]
 |f+1,o=>match ntF s gi rs o most 1 with
  |none=>[]
  |some q=>(q.2,q.1)::roF s gi rs most f q.1
def lastO (o:List Int):List (Nat×List Int)->List Int
 |[]=>o
 |x::L=>lastO x.2 L
theorem lastO_push (o:List Int) (L:List (Nat×List Int)) (x:Nat×List Int):lastO o (L++[x])=x.2:=by
 induction L generalizing o with
 |nil=>rfl
 |cons y L ih=>exact ih y.2
theorem lastO_app (o:List Int) (L L':List (Nat×List Int)):lastO o (L++L')=lastO (lastO o L) L':=by
 induction L generalizing o with
 |nil=>rfl
 |cons y L ih=>exact ih y.2
theorem naI_ro {s:Int} {gi:List Int} {rs:List RuleM} {most:Nat}:∀ f o r,naI s gi rs most f o r=(lastO o (roF s gi rs most f o),r+(roF s gi rs most f o).length):=by
 intro f
 induction f with
 |zero=>intro o r;rfl
 |succ f ih=>
  intro o r;simp only [naI,roF]
  cases ntF s gi rs o most 1 with
  |none=>rfl
  |some q=>simp only [ih,lastO,List.length_cons];congr 1;omega
section
variable {s : Int} {gi : List Int} {rs : List RuleM} {most : Nat}
theorem roF_fuel (hv:pvB s gi rs=true) (h4:most<=4):∀ f f' o,mvd o s=true->sumTo o o.length<f->sumTo o o.length<f'->roF s gi rs most f o=roF s gi rs most f' o:=by
 intro f
 induction f with
 |zero=>intro f' o _ h _;omega
 |succ f ih=>
  intro f' o hm h1 h2
  match f',h2 with
  |0,h2=>omega
  |f'+1,h2=>
   simp only [roF]
   cases e:ntF s gi rs o most 1 with
   |none=>rfl
   |some q=>
    obtain ⟨_,q2,q3⟩:=ntF_sub hv h4 hm (q:=q.1) (u:=q.2) e;simp only [ih f' q.1 q2 (by omega) (by omega)]
theorem roF_len (hv:pvB s gi rs=true) (h4:most<=4):∀ f o,mvd o s=true->(roF s gi rs most f o).length<=sumTo o o.length:=by
 intro f
 induction f with
 |zero=>intro o _;exact Nat.zero_le _
 |succ f ih=>
  intro o hm;simp only [roF]
  cases e:ntF s gi rs o most 1 with
  |none=>exact Nat.zero_le _
  |some q=>
   obtain ⟨_,q2,q3⟩:=ntF_sub hv h4 hm (q:=q.1) (u:=q.2) e;have:=ih q.1 q2;simp only [List.length_cons];omega
theorem roF_mem (P:List Int->Prop) (hv:pvB s gi rs=true) (h4:most<=4) (hP:∀ o t,mvd o s=true->1<=t->t<=most->P o->P (nbL s gi rs o (t:Nat))):∀ f o,mvd o s=true->P o->∀ x∈roF s gi rs most f o,1<=x.1/\x.1<=most/\P x.2/\mvd x.2 s=true/\Sub x.2 o:=by
 intro f
 induction f with
 |zero=>intro o _ _ x hx;cases hx
 |succ f ih=>
  intro o hm h x hx;simp only [roF] at hx
  cases e:ntF s gi rs o most 1 with
  |none=>rw [e] at hx;cases hx
  |some q=>
   rw [e] at hx;obtain ⟨h1,h2,h3,_,_⟩:=ntF_some (q:=q.1) (u:=q.2) e;obtain ⟨q1,q2,_⟩:=ntF_sub hv h4 hm (q:=q.1) (u:=q.2) e;have hPq:P q.1:=(by rw [h3];exact hP o _ hm (by omega) (by omega) h)
   rcases List.mem_cons.1 hx with rfl|hx
   ·exact ⟨by dsimp only;omega,by dsimp only;omega,hPq,q2,q1⟩
   ·obtain ⟨a1,a2,a3,a4,a5⟩:=ih q.1 q2 hPq x hx;exact ⟨a1,a2,a3,a4,a5.trans q1⟩
def roE (s:Int) (gi:List Int) (rs:List RuleM) (most:Nat) (o:List Int):List (Nat×List Int):=roF s gi rs most (sumTo o o.length+1) o
theorem roE_none {o:List Int} (h:ntF s gi rs o most 1=none):roE s gi rs most o=[]:=by simp only [roE,roF,h]
theorem roE_some {o q:List Int} {u:Nat} (hv:pvB s gi rs=true) (h4:most<=4) (hm:mvd o s=true) (h:ntF s gi rs o most 1=some (q,u)):roE s gi rs most o=(u,q)::roE s gi rs most q:=by
 obtain ⟨_,q2,q3⟩:=ntF_sub hv h4 hm h;unfold roE;rw [show roF s gi rs most (sumTo o o.length+1) o=(u,q)::roF s gi rs most (sumTo o o.length) q from by simp only [roF,h]];rw [roF_fuel hv h4 (sumTo o o.length) (sumTo q q.length+1) q q2 (by omega) (by omega)]
theorem roE_len {o:List Int} (hv:pvB s gi rs=true) (h4:most<=4) (hm:mvd o s=true):(roE s gi rs most o).length<=480:=Nat.le_trans (roF_len hv h4 _ _ hm) (sum_480 hm)
theorem naE_ro {o:List Int} {r:Nat}:naE s gi rs most o r=(lastO o (roE s gi rs most o),r+(roE s gi rs most o).length):=naI_ro _ _ _
theorem roE_mem {o:List Int} (hv:pvB s gi rs=true) (h4:most<=4) (hm:mvd o s=true):∀ x∈roE s gi rs most o,1<=x.1/\x.1<=most/\mvd x.2 s=true/\Sub x.2 o:=fun x hx=>by
 obtain ⟨a,b,_,c,d⟩:=roF_mem (fun _=>True) hv h4 (fun _ _ _ _ _ _=>trivial) _ _ hm trivial x hx;exact ⟨a,b,c,d⟩
theorem roE_split (hv:pvB s gi rs=true) (h4:most<=4) {L:List (Nat×List Int)}:∀ (pre:List (Nat×List Int)) (o:List Int),mvd o s=true->roE s gi rs most o=pre++L->mvd (lastO o pre) s=true/\roE s gi rs most (lastO o pre)=L/\Sub (lastO o pre) o:=by
 intro pre
 induction pre with
 |nil=>intro o hm h;exact ⟨hm,h,Sub.of_mvd hm⟩
 |cons y pre ih=>
  intro o hm h
  cases e:ntF s gi rs o most 1 with
  |none=>rw [roE_none e] at h;cases h
  |some q=>
   obtain ⟨q1,q2,_⟩:=ntF_sub hv h4 hm (q:=q.1) (u:=q.2) e;rw [roE_some hv h4 hm (q:=q.1) (u:=q.2) e] at h
   injection h with h1 h2
   subst h1;obtain ⟨a,b,c⟩:=ih q.1 q2 h2;exact ⟨a,b,c.trans q1⟩
theorem roE_at (hv:pvB s gi rs=true) (h4:most<=4) {pre tl:List (Nat×List Int)} {o x:List Int} {t:Nat} (hm:mvd o s=true) (h:roE s gi rs most o=pre++(t,x)::tl):mvd (lastO o pre) s=true/\ntF s gi rs (lastO o pre) most 1=some (x,t)/\1<=t/\t<=most/\x=nbL s gi rs (lastO o pre) t/\x≠lastO o pre/\mvd x s=true/\Sub x (lastO o pre)/\roE s gi rs most x=tl:=by
 obtain ⟨a,b,_⟩:=roE_split hv h4 pre o hm h
 cases e:ntF s gi rs (lastO o pre) most 1 with
 |none=>rw [roE_none e] at b;cases b
 |some q=>
  obtain ⟨q1,q2,_⟩:=ntF_sub hv h4 a (q:=q.1) (u:=q.2) e;obtain ⟨h1,h2,h3,h5,_⟩:=ntF_some (q:=q.1) (u:=q.2) e;rw [roE_some hv h4 a (q:=q.1) (u:=q.2) e] at b
  injection b with b1 b2
  injection b1 with b1 b3
  subst b1 b3;exact ⟨a,rfl,h1,by omega,h3,h5,q2,q1,b2⟩
theorem ntF_more {o q:List Int} {u d d':Nat} (h:ntF s gi rs o d 1=some (q,u)) (hd:d<=d'):ntF s gi rs o d' 1=some (q,u):=by
 obtain ⟨h1,h2,h3,h4,h5⟩:=ntF_some h;exact ntF_at h5 h1 (by omega) h3 h4
theorem roE_more (hv:pvB s gi rs=true) {g:Nat} (hg:g<=most) (h4:most<=4):∀ (f:Nat) (o:List Int),mvd o s=true->sumTo o o.length<f->∃ L,roE s gi rs most o=roE s gi rs g o++L:=by
 intro f
 induction f with
 |zero=>intro o _ h;omega
 |succ f ih=>
  intro o hm hf
  cases e:ntF s gi rs o g 1 with
  |none=>exact ⟨_,by rw [roE_none e,List.nil_append]⟩
  |some q=>
   have e':=ntF_more (q:=q.1) (u:=q.2) e hg;obtain ⟨_,q2,q3⟩:=ntF_sub hv h4 hm e';obtain ⟨L,hL⟩:=ih q.1 q2 (by omega);exact ⟨L,by rw [roE_some hv h4 hm e',roE_some hv (by omega) hm (q:=q.1) (u:=q.2) e,hL,List.cons_append]⟩
end
def sVal (G OB RB n:Nat):Value:=.agg #[.slice (some ⟨G,0,none⟩) n n,.slice (some ⟨OB,0,none⟩) n n,.slice (some ⟨RB,0,none⟩) n n]
def holdsR (ys:List Int) (r:RuleM):Bool:=holdsB r.k r.v (pks ys r.xs r.xs.length)
def holdsQ (ys:List Int) (q:List RuleM):Bool:=(List.range q.length).all fun i=>holdsR ys (rat q i)
def SBox (w:World) (g G OB RB n:Nat):Prop:=w.cell? ⟨g,0,none⟩=some (.slice (some ⟨G,0,none⟩) n n)/\w.cell? ⟨g,1,none⟩=some (.slice (some ⟨OB,0,none⟩) n n)/\w.cell? ⟨g,2,none⟩=some (.slice (some ⟨RB,0,none⟩) n n)
theorem SBox.below {w w':World} {g B G OB RB n:Nat} (h:SBox w g G OB RB n) (hg:g<B) (hb:Below B w w'):SBox w' g G OB RB n:=
 ⟨(hb.cell (p:=⟨g,0,none⟩) hg).trans h.1,(hb.cell (p:=⟨g,1,none⟩) hg).trans h.2.1,(hb.cell (p:=⟨g,2,none⟩) hg).trans h.2.2⟩
theorem SBox.lt {w:World} {g G OB RB n:Nat} (h:SBox w g G OB RB n):g<w.heap.size:=cell_lt h.1
theorem sbox_new (w:World) (G OB RB n:Nat) (t:TypeId):SBox (w.alloc (.cells #[.slice (some ⟨G,0,none⟩) n n,.slice (some ⟨OB,0,none⟩) n n,.slice (some ⟨RB,0,none⟩) n n] t)) w.heap.size G OB RB n:=
 ⟨cell_of_row _ _ 0 _ _ (0,0) (heap_alloc_new w _),cell_of_row _ _ 1 _ _ (0,0) (heap_alloc_new w _),cell_of_row _ _ 2 _ _ (0,0) (heap_alloc_new w _)⟩
theorem nHolds1 (k v:Int) (A:Option Addr) (n c:Nat) (w:World):(nilAhead 323 183 (.agg #[.int .i64 k,.slice A n c,.int .i64 v]) "loop.example/gridpuzzles/impl.holdsWith").run Tryz.prog w=.ok (some false) w:=by kernel_rfl
theorem nHolds2 (k v:Int) (A:Option Addr) (n c:Nat) (w:World):(nilAhead 323 184 (.agg #[.int .i64 k,.slice A n c,.int .i64 v]) "loop.example/gridpuzzles/impl.holdsWith").run Tryz.prog w=.ok (some false) w:=by kernel_rfl
theorem nHolds3 (k v:Int) (A:Option Addr) (n c:Nat) (w:World):(nilAhead 323 185 (.agg #[.int .i64 k,.slice A n c,.int .i64 v]) "loop.example/gridpuzzles/impl.holdsWith").run Tryz.prog w=.ok (some false) w:=by kernel_rfl
theorem nHolds4 (k v:Int) (A:Option Addr) (n c:Nat) (w:World):(nilAhead 323 186 (.agg #[.int .i64 k,.slice A n c,.int .i64 v]) "loop.example/gridpuzzles/impl.holdsWith").run Tryz.prog w=.ok (some false) w:=by kernel_rfl
theorem nHolds5 (k v:Int) (A:Option Addr) (n c:Nat) (w:World):(nilAhead 323 187 (.agg #[.int .i64 k,.slice A n c,.int .i64 v]) "loop.example/gridpuzzles/impl.holdsWith").run Tryz.prog w=.ok (some false) w:=by kernel_rfl
set_option maxHeartbeats 2000000 in
theorem rulesHold_any (W0:World) (B0 G OB RB n L p:Nat) (s:Int) (A:Option Addr) (cap:Nat) (q:List RuleM) (ys:List Int) (X:World)
 (hrow:X.cell? ⟨RB,p,none⟩=some (.slice A q.length cap)) (hq:RdW W0 B0 X L A q) (h0:Below B0 W0 X) (hB0:B0<=W0.heap.size) (hp:p<n) (hg:Rd X X.heap.size (some ⟨G,0,none⟩) n ys) (hql:q.length<=1099511627776)
 (hv:∀ i,i<q.length->rvR s (rat q i)=true) (hin:∀ i,i<q.length->∀ j,j<(rat q i).xs.length->0<=nth (rat q i).xs j/\nth (rat q i).xs j<n) (hsm:∀ i,i<q.length->small4 (pks ys (rat q i).xs (rat q i).xs.length) (rat q i).xs.length):
 Calls Tryz.prog 167 #[sVal G OB RB n,.int .i64 p] X fun e Y=>e=.returned (.bool (holdsQ ys q))/\Below X.heap.size X Y:=by
 unfold sVal;have hx0:=sbox_new X G OB RB n 133;have hb0:Below X.heap.size X (X.alloc (.cells #[.slice (some ⟨G,0,none⟩) n n,.slice (some ⟨OB,0,none⟩) n n,.slice (some ⟨RB,0,none⟩) n n] 133)):=(Below.refl _ _).alloc (Nat.le_refl _) _
 have hs0:X.heap.size+1<=(X.alloc (.cells #[.slice (some ⟨G,0,none⟩) n n,.slice (some ⟨OB,0,none⟩) n n,.slice (some ⟨RB,0,none⟩) n n] 133)).heap.size:=by simp
 obtain ⟨z0,z1,z2⟩:=id hx0;have hrw:=cell_lt hrow;have hrow0:=(hb0.cell (p:=⟨RB,p,none⟩) hrw).trans hrow
 have hpI:(p:Int)<(n:Int):=by omega
 have HQ:=Lib.hid hq;have HG:=Lib.hid hg;have H0:=Lib.hid h0;have HV:=Lib.hid hv;have HIN:=Lib.hid hin;have HSM:=Lib.hid hsm;obtain ⟨l,hl⟩:∃ l,l=q.length:=⟨_,rfl⟩;rw [<- hl] at hrow0 hql;have Hl:=Lib.hid hl;clear hl hrow hq hg h0 hv hin hsm
 go_enter Tryz.func167,Tryz.ntmps167
 go_wp2
 go_loopw [13] (fun i wr=>∃ u:Nat,u<=l/\i=.int .i64 u/\Hid (allR (holdsR ys) q u)/\SBox wr X.heap.size G OB RB n/\Below X.heap.size X wr/\X.heap.size+1<=wr.heap.size) (fun i _=>l-(intOf i).toNat)
 case atStart=>exact ⟨0,Nat.zero_le _,rfl,Lib.hid (fun j hj=>absurd hj (by omega)),hx0,hb0,hs0⟩
 case round=>
  obtain ⟨u,hu,rfl,hall,hx,hb,hsw⟩:=hrel;obtain ⟨c0,c1,c2⟩:=id hx
  by_cases hlt:u<l
  ·have hltq:u<q.length:=by rw [<- Hl.out];exact hlt
   obtain ⟨b,rfl,hbL,hcc⟩:=HQ.out (by omega);obtain ⟨A',c',r0,r1,r2,r3,r5⟩:=hcc u hltq;have hv0:=HV.out u hltq;have hxin0:=HIN.out u hltq;have hsm0:=HSM.out u hltq;have hHR:holdsR ys (rat q u)=holdsB (rat q u).k (rat q u).v (pks ys (rat q u).xs (rat q u).xs.length):=rfl;obtain ⟨rk,hrk⟩:∃ x,x=(rat q u).k:=⟨_,rfl⟩;obtain ⟨rx,hrx⟩:∃ x,x=(rat q u).xs:=⟨_,rfl⟩;obtain ⟨rvv,hrv⟩:∃ x,x=(rat q u).v:=⟨_,rfl⟩;have hv1:rv rk rx rvv s=true:=(by rw [hrk,hrx,hrv];exact hv0);rw [<- hrk,<-hrx,<-hrv] at hHR;rw [<- hrk] at r0;rw [<- hrx] at r1 r3 r5 hxin0 hsm0;rw [<- hrv] at r2;obtain ⟨_,⟨hn1,hn4⟩,hk2,_⟩:=rv_facts rfl hv1;have hin':(u:Int)<(l:Int):=(by omega);have hbX:=cell_lt r0;have r0:=(hb.cell (p:=⟨b,u*3,none⟩) hbX).trans r0;have r1:=(hb.cell (p:=⟨b,u*3+1,none⟩) hbX).trans r1;have r2:=(hb.cell (p:=⟨b,u*3+2,none⟩) hbX).trans r2;have hy:=rbox_new wr rk A' rx.length c' rvv 88;have hb1:Below wr.heap.size wr (wr.alloc (.cells #[.int .i64 rk,.slice A' rx.length c',.int .i64 rvv] 88)):=(Below.refl _ _).alloc (Nat.le_refl _) _;obtain ⟨y0,y1,y2⟩:=id hy;have hx1:=hx.below (Nat.lt_of_lt_of_le (Nat.lt_succ_self _) hsw) hb1
   obtain ⟨d0,d1,d2⟩:=id hx1;have hbw:=hb.trans (hb1.mono hb.size);have hs1:X.heap.size<(wr.alloc (.cells #[.int .i64 rk,.slice A' rx.length c',.int .i64 rvv] 88)).heap.size:=(by simp;omega);have hs2:wr.heap.size<(wr.alloc (.cells #[.int .i64 rk,.slice A' rx.length c',.int .i64 rvv] 88)).heap.size:=(by simp);obtain ⟨W,hW⟩:∃ W,wr.alloc (.cells #[.int .i64 rk,.slice A' rx.length c',.int .i64 rvv] 88)=W:=⟨_,rfl⟩;rw [hW] at hy y0 y1 y2 hx1 d0 d1 d2 hbw hs1 hs2
   have HS:Hid (∀ w',Below W.heap.size W w'->w'.cell? ⟨wr.heap.size,0,none⟩=some (.int .i64 rk)/\w'.cell? ⟨wr.heap.size,1,none⟩=some (.slice A' rx.length c')/\w'.cell? ⟨wr.heap.size,2,none⟩=some (.int .i64 rvv)/\w'.cell? ⟨X.heap.size,0,none⟩=some (.slice (some ⟨G,0,none⟩) n n)):=
    Lib.hid (fun w' hb=>by
     obtain ⟨e0,e1,e2⟩:=hy.below hs2 hb
     exact ⟨e0,e1,e2,(hx1.below hs1 hb).1⟩)
   have HPK:=Lib.hid (fun w' (hb2:Below W.heap.size W w')=>implPick (some ⟨G,0,none⟩) n n X.heap.size ys A' c' rx.length B0 rx w' (HG.out.below (hbw.trans (hb2.mono hbw.size))) (r3.below (H0.out.trans ((hbw.trans (hb2.mono hbw.size)).mono (Nat.le_trans hB0 H0.out.size)))) (Nat.le_trans hbw.size hb2.size) (Nat.le_trans (Nat.le_trans (Nat.le_trans hB0 H0.out.size) hbw.size) hb2.size) (by omega) hxin0);have Hpl:=Lib.hid (pks_length ys rx rx.length);have Hsm:=Lib.hid hsm0;have Hk:=Lib.hid (rv_kind hv1);have Hk2:rk=1\/rk=2\/rk=3\/2<=rx.length:=hk2;obtain ⟨bb,hbb⟩:∃ bb,holdsB rk rvv (pks ys rx rx.length)=bb:=⟨_,rfl⟩
   have Hbb:=Lib.hid hbb;have Hbw:=Lib.hid hbw;have hx1':=Lib.hid hx1;have Hlt:=Lib.hid hlt;have HR:Hid (holdsR ys (rat q u)=bb):=Lib.hid (hHR.trans hbb)
   have HU:=Lib.hid (show ∀ b',bb=b'->(b'=false->holdsQ ys q=false)/\(b'=true->Hid (allR (holdsR ys) q (u+1))) from fun b' e=>⟨fun h=>not_all_rat rfl hltq (by rw [HR.out,e,h]),fun h=>Lib.hid (fun i hi=>by
    by_cases e2:i=u
    ·subst e2;rw [HR.out,e,h]
    ·exact hall.out i (by omega))⟩)
   have Hofk:=Lib.hid (fun w'=>ofKind_any A' c' rx.length rk rvv w');clear hrk hrx hrv hcc hsm0 hbb hv0 hv1 hx hb1 hHR hk2 hxin0 r3 hbX hltq hall hrow0
   rcases Hk.out with rfl|rfl|rfl|rfl|rfl
   ·have M:∀ w,(method 323 183 (.agg #[.int .i64 1,.slice A' rx.length c',.int .i64 rvv]) "loop.example/gridpuzzles/impl.holdsWith").run Tryz.prog w=.ok (220,.agg #[.int .i64 1,.slice A' rx.length c',.int .i64 rvv]) w:=fun w=>mHolds1 _ _ _ _ _ w
    have NA:∀ w,(nilAhead 323 183 (.agg #[.int .i64 1,.slice A' rx.length c',.int .i64 rvv]) "loop.example/gridpuzzles/impl.holdsWith").run Tryz.prog w=.ok (some false) w:=fun w=>nHolds1 _ _ _ _ _ w
    have h2:4<=1->2<=rx.length:=(by omega);have Hofi:ofk 1 (rval 1 A' rx.length c' rvv)=.iface 183 (.agg #[.int .i64 1,.slice A' rx.length c',.int .i64 rvv]):=rfl;rw [Hofi] at Hofk;clear Hofi
    go_wp2_with fail
    go_region_held3 (fun w'=>w'.cell? ⟨wr.heap.size,0,none⟩=some (.int .i64 1)/\w'.cell? ⟨wr.heap.size,1,none⟩=some (.slice A' rx.length c')/\w'.cell? ⟨wr.heap.size,2,none⟩=some (.int .i64 rvv)/\w'.cell? ⟨X.heap.size,0,none⟩=some (.slice (some ⟨G,0,none⟩) n n))
     (first|go_keep|exact HS.out _ h6|exact HS.out _ h3|exact HS.out _ h5)
     ((first
       |(go_simp;go_at_call 220;refine (hold1 _ _ _ _ _ _ _ _ _ _ (by first|exact ho3.rd|exact ho3.rd.below hb5') (by first|exact Nat.le_refl _|exact hb5'.size) hn4 ho3.le_cap Hsm h2).mono ?_;rw [Hbb.out];rintro e w6 ⟨rfl,hb6'⟩;have h6:Below W.heap.size W w6:=(by first|exact step h5 hb6'|exact step h3 hb6'|exact step h5.drew hb6'|exact step h3.drew hb6'))
       |(go_simp;go_at_call 181;refine (HPK.out _ (by first|exact (Below.refl _ _).drew|exact h5|exact h5.drew|exact Below.refl _ _)).mono ?_;rintro e w3 ⟨A3,c3,rfl,ho3,hb3'⟩;rw [Hpl.out] at ho3 ⊢;have h3:Below W.heap.size W w3:=(by first|exact ((Below.refl _ _).drew).trans hb3'|exact step h5 hb3'|exact step h5.drew hb3'|exact hb3'))
       |(go_simp;go_at_call 175;refine (Hofk.out _).mono ?_;rintro e w5 ⟨rfl,hb5'⟩;have h5:Below W.heap.size W w5:=(by first|exact ((Below.refl _ _).drew).trans hb5'|exact step h3 hb5'|exact step h3.drew hb5'|exact hb5'))))
    all_goals
     cases bb
     ·have HF:=Lib.hid ((HU.out false rfl).1 rfl)
      go_wp2
      go_ret
      exact ⟨by rw [HF.out];rfl,step Hbw.out h6⟩
     ·have HT:=(HU.out true rfl).2 rfl
      go_wp2
      go_roundw
      case rel=>exact ⟨u+1,Hlt.out,by go_num,HT,hx1'.out.below hs1 h6,step Hbw.out h6,Nat.le_trans hs1 h6.size⟩
      case measure=>have:=Hlt.out;simp [intOf];omega
   ·have M:∀ w,(method 323 184 (.agg #[.int .i64 2,.slice A' rx.length c',.int .i64 rvv]) "loop.example/gridpuzzles/impl.holdsWith").run Tryz.prog w=.ok (222,.agg #[.int .i64 2,.slice A' rx.length c',.int .i64 rvv]) w:=fun w=>mHolds2 _ _ _ _ _ w
    have NA:∀ w,(nilAhead 323 184 (.agg #[.int .i64 2,.slice A' rx.length c',.int .i64 rvv]) "loop.example/gridpuzzles/impl.holdsWith").run Tryz.prog w=.ok (some false) w:=fun w=>nHolds2 _ _ _ _ _ w
    have h2:4<=2->2<=rx.length:=(by omega);have Hofi:ofk 2 (rval 2 A' rx.length c' rvv)=.iface 184 (.agg #[.int .i64 2,.slice A' rx.length c',.int .i64 rvv]):=rfl;rw [Hofi] at Hofk;clear Hofi
    go_wp2_with fail
    go_region_held3 (fun w'=>w'.cell? ⟨wr.heap.size,0,none⟩=some (.int .i64 2)/\w'.cell? ⟨wr.heap.size,1,none⟩=some (.slice A' rx.length c')/\w'.cell? ⟨wr.heap.size,2,none⟩=some (.int .i64 rvv)/\w'.cell? ⟨X.heap.size,0,none⟩=some (.slice (some ⟨G,0,none⟩) n n))
     (first|go_keep|exact HS.out _ h6|exact HS.out _ h3|exact HS.out _ h5)
     ((first
       |(go_simp;go_at_call 222;refine (hold2 _ _ _ _ _ _ _ _ _ _ (by first|exact ho3.rd|exact ho3.rd.below hb5') (by first|exact Nat.le_refl _|exact hb5'.size) hn4 ho3.le_cap Hsm h2).mono ?_;rw [Hbb.out];rintro e w6 ⟨rfl,hb6'⟩;have h6:Below W.heap.size W w6:=(by first|exact step h5 hb6'|exact step h3 hb6'|exact step h5.drew hb6'|exact step h3.drew hb6'))
       |(go_simp;go_at_call 181;refine (HPK.out _ (by first|exact (Below.refl _ _).drew|exact h5|exact h5.drew|exact Below.refl _ _)).mono ?_;rintro e w3 ⟨A3,c3,rfl,ho3,hb3'⟩;rw [Hpl.out] at ho3 ⊢;have h3:Below W.heap.size W w3:=(by first|exact ((Below.refl _ _).drew).trans hb3'|exact step h5 hb3'|exact step h5.drew hb3'|exact hb3'))
       |(go_simp;go_at_call 175;refine (Hofk.out _).mono ?_;rintro e w5 ⟨rfl,hb5'⟩;have h5:Below W.heap.size W w5:=(by first|exact ((Below.refl _ _).drew).trans hb5'|exact step h3 hb5'|exact step h3.drew hb5'|exact hb5'))))
    all_goals
     cases bb
     ·have HF:=Lib.hid ((HU.out false rfl).1 rfl)
      go_wp2
      go_ret
      exact ⟨by rw [HF.out];rfl,step Hbw.out h6⟩
     ·have HT:=(HU.out true rfl).2 rfl
      go_wp2
      go_roundw
      case rel=>exact ⟨u+1,Hlt.out,by go_num,HT,hx1'.out.below hs1 h6,step Hbw.out h6,Nat.le_trans hs1 h6.size⟩
      case measure=>have:=Hlt.out;simp [intOf];omega
   ·have M:∀ w,(method 323 185 (.agg #[.int .i64 3,.slice A' rx.length c',.int .i64 rvv]) "loop.example/gridpuzzles/impl.holdsWith").run Tryz.prog w=.ok (225,.agg #[.int .i64 3,.slice A' rx.length c',.int .i64 rvv]) w:=fun w=>mHolds3 _ _ _ _ _ w
    have NA:∀ w,(nilAhead 323 185 (.agg #[.int .i64 3,.slice A' rx.length c',.int .i64 rvv]) "loop.example/gridpuzzles/impl.holdsWith").run Tryz.prog w=.ok (some false) w:=fun w=>nHolds3 _ _ _ _ _ w
    have h2:4<=3->2<=rx.length:=(by omega);have Hofi:ofk 3 (rval 3 A' rx.length c' rvv)=.iface 185 (.agg #[.int .i64 3,.slice A' rx.length c',.int .i64 rvv]):=rfl;rw [Hofi] at Hofk;clear Hofi
    go_wp2_with fail
    go_region_held3 (fun w'=>w'.cell? ⟨wr.heap.size,0,none⟩=some (.int .i64 3)/\w'.cell? ⟨wr.heap.size,1,none⟩=some (.slice A' rx.length c')/\w'.cell? ⟨wr.heap.size,2,none⟩=some (.int .i64 rvv)/\w'.cell? ⟨X.heap.size,0,none⟩=some (.slice (some ⟨G,0,none⟩) n n))
     (first|go_keep|exact HS.out _ h6|exact HS.out _ h3|exact HS.out _ h5)
     ((first
       |(go_simp;go_at_call 225;refine (hold3 _ _ _ _ _ _ _ _ _ _ (by first|exact ho3.rd|exact ho3.rd.below hb5') (by first|exact Nat.le_refl _|exact hb5'.size) hn4 ho3.le_cap Hsm h2).mono ?_;rw [Hbb.out];rintro e w6 ⟨rfl,hb6'⟩;have h6:Below W.heap.size W w6:=(by first|exact step h5 hb6'|exact step h3 hb6'|exact step h5.drew hb6'|exact step h3.drew hb6'))
       |(go_simp;go_at_call 181;refine (HPK.out _ (by first|exact (Below.refl _ _).drew|exact h5|exact h5.drew|exact Below.refl _ _)).mono ?_;rintro e w3 ⟨A3,c3,rfl,ho3,hb3'⟩;rw [Hpl.out] at ho3 ⊢;have h3:Below W.heap.size W w3:=(by first|exact ((Below.refl _ _).drew).trans hb3'|exact step h5 hb3'|exact step h5.drew hb3'|exact hb3'))
       |(go_simp;go_at_call 175;refine (Hofk.out _).mono ?_;rintro e w5 ⟨rfl,hb5'⟩;have h5:Below W.heap.size W w5:=(by first|exact ((Below.refl _ _).drew).trans hb5'|exact step h3 hb5'|exact step h3.drew hb5'|exact hb5'))))
    all_goals
     cases bb
     ·have HF:=Lib.hid ((HU.out false rfl).1 rfl)
      go_wp2
      go_ret
      exact ⟨by rw [HF.out];rfl,step Hbw.out h6⟩
     ·have HT:=(HU.out true rfl).2 rfl
      go_wp2
      go_roundw
      case rel=>exact ⟨u+1,Hlt.out,by go_num,HT,hx1'.out.below hs1 h6,step Hbw.out h6,Nat.le_trans hs1 h6.size⟩
      case measure=>have:=Hlt.out;simp [intOf];omega
   ·have M:∀ w,(method 323 186 (.agg #[.int .i64 4,.slice A' rx.length c',.int .i64 rvv]) "loop.example/gridpuzzles/impl.holdsWith").run Tryz.prog w=.ok (227,.agg #[.int .i64 4,.slice A' rx.length c',.int .i64 rvv]) w:=fun w=>mHolds4 _ _ _ _ _ w
    have NA:∀ w,(nilAhead 323 186 (.agg #[.int .i64 4,.slice A' rx.length c',.int .i64 rvv]) "loop.example/gridpuzzles/impl.holdsWith").run Tryz.prog w=.ok (some false) w:=fun w=>nHolds4 _ _ _ _ _ w
    have h2:4<=4->2<=rx.length:=(by omega);have Hofi:ofk 4 (rval 4 A' rx.length c' rvv)=.iface 186 (.agg #[.int .i64 4,.slice A' rx.length c',.int .i64 rvv]):=rfl;rw [Hofi] at Hofk;clear Hofi
    go_wp2_with fail
    go_region_held3 (fun w'=>w'.cell? ⟨wr.heap.size,0,none⟩=some (.int .i64 4)/\w'.cell? ⟨wr.heap.size,1,none⟩=some (.slice A' rx.length c')/\w'.cell? ⟨wr.heap.size,2,none⟩=some (.int .i64 rvv)/\w'.cell? ⟨X.heap.size,0,none⟩=some (.slice (some ⟨G,0,none⟩) n n))
     (first|go_keep|exact HS.out _ h6|exact HS.out _ h3|exact HS.out _ h5)
     ((first
       |(go_simp;go_at_call 227;refine (hold4 _ _ _ _ _ _ _ _ _ _ (by first|exact ho3.rd|exact ho3.rd.below hb5') (by first|exact Nat.le_refl _|exact hb5'.size) hn4 ho3.le_cap Hsm h2).mono ?_;rw [Hbb.out];rintro e w6 ⟨rfl,hb6'⟩;have h6:Below W.heap.size W w6:=(by first|exact step h5 hb6'|exact step h3 hb6'|exact step h5.drew hb6'|exact step h3.drew hb6'))
       |(go_simp;go_at_call 181;refine (HPK.out _ (by first|exact (Below.refl _ _).drew|exact h5|exact h5.drew|exact Below.refl _ _)).mono ?_;rintro e w3 ⟨A3,c3,rfl,ho3,hb3'⟩;rw [Hpl.out] at ho3 ⊢;have h3:Below W.heap.size W w3:=(by first|exact ((Below.refl _ _).drew).trans hb3'|exact step h5 hb3'|exact step h5.drew hb3'|exact hb3'))
       |(go_simp;go_at_call 175;refine (Hofk.out _).mono ?_;rintro e w5 ⟨rfl,hb5'⟩;have h5:Below W.heap.size W w5:=(by first|exact ((Below.refl _ _).drew).trans hb5'|exact step h3 hb5'|exact step h3.drew hb5'|exact hb5'))))
    all_goals
     cases bb
     ·have HF:=Lib.hid ((HU.out false rfl).1 rfl)
      go_wp2
      go_ret
      exact ⟨by rw [HF.out];rfl,step Hbw.out h6⟩
     ·have HT:=(HU.out true rfl).2 rfl
      go_wp2
      go_roundw
      case rel=>exact ⟨u+1,Hlt.out,by go_num,HT,hx1'.out.below hs1 h6,step Hbw.out h6,Nat.le_trans hs1 h6.size⟩
      case measure=>have:=Hlt.out;simp [intOf];omega
   ·have M:∀ w,(method 323 187 (.agg #[.int .i64 5,.slice A' rx.length c',.int .i64 rvv]) "loop.example/gridpuzzles/impl.holdsWith").run Tryz.prog w=.ok (229,.agg #[.int .i64 5,.slice A' rx.length c',.int .i64 rvv]) w:=fun w=>mHolds5 _ _ _ _ _ w
    have NA:∀ w,(nilAhead 323 187 (.agg #[.int .i64 5,.slice A' rx.length c',.int .i64 rvv]) "loop.example/gridpuzzles/impl.holdsWith").run Tryz.prog w=.ok (some false) w:=fun w=>nHolds5 _ _ _ _ _ w
    have h2:4<=5->2<=rx.length:=(by omega);have Hofi:ofk 5 (rval 5 A' rx.length c' rvv)=.iface 187 (.agg #[.int .i64 5,.slice A' rx.length c',.int .i64 rvv]):=rfl;rw [Hofi] at Hofk;clear Hofi
    go_wp2_with fail
    go_region_held3 (fun w'=>w'.cell? ⟨wr.heap.size,0,none⟩=some (.int .i64 5)/\w'.cell? ⟨wr.heap.size,1,none⟩=some (.slice A' rx.length c')/\w'.cell? ⟨wr.heap.size,2,none⟩=some (.int .i64 rvv)/\w'.cell? ⟨X.heap.size,0,none⟩=some (.slice (some ⟨G,0,none⟩) n n))
     (first|go_keep|exact HS.out _ h6|exact HS.out _ h3|exact HS.out _ h5)
     ((first
       |(go_simp;go_at_call 229;refine (hold5 _ _ _ _ _ _ _ _ _ _ (by first|exact ho3.rd|exact ho3.rd.below hb5') (by first|exact Nat.le_refl _|exact hb5'.size) hn4 ho3.le_cap Hsm h2).mono ?_;rw [Hbb.out];rintro e w6 ⟨rfl,hb6'⟩;have h6:Below W.heap.size W w6:=(by first|exact step h5 hb6'|exact step h3 hb6'|exact step h5.drew hb6'|exact step h3.drew hb6'))
       |(go_simp;go_at_call 181;refine (HPK.out _ (by first|exact (Below.refl _ _).drew|exact h5|exact h5.drew|exact Below.refl _ _)).mono ?_;rintro e w3 ⟨A3,c3,rfl,ho3,hb3'⟩;rw [Hpl.out] at ho3 ⊢;have h3:Below W.heap.size W w3:=(by first|exact ((Below.refl _ _).drew).trans hb3'|exact step h5 hb3'|exact step h5.drew hb3'|exact hb3'))
       |(go_simp;go_at_call 175;refine (Hofk.out _).mono ?_;rintro e w5 ⟨rfl,hb5'⟩;have h5:Below W.heap.size W w5:=(by first|exact ((Below.refl _ _).drew).trans hb5'|exact step h3 hb5'|exact step h3.drew hb5'|exact hb5'))))
    all_goals
     cases bb
     ·have HF:=Lib.hid ((HU.out false rfl).1 rfl)
      go_wp2
      go_ret
      exact ⟨by rw [HF.out];rfl,step Hbw.out h6⟩
     ·have HT:=(HU.out true rfl).2 rfl
      go_wp2
      go_roundw
      case rel=>exact ⟨u+1,Hlt.out,by go_num,HT,hx1'.out.below hs1 h6,step Hbw.out h6,Nat.le_trans hs1 h6.size⟩
      case measure=>have:=Hlt.out;simp [intOf];omega
  ·obtain rfl:u=l:=by omega
   have HL:=Lib.hid (show holdsQ ys q=true from all_rat Hl.out.symm hall.out)
   go_wp2
   go_ret
   exact ⟨by rw [HL.out];rfl,hb⟩
theorem low_idx:∀ p,p<16->IntKind.u64.wrap (((2^p:Nat):Int)*285870213051353865)/288230376151711744=((tzI.getD p 0:Nat):Int)/\tzI.getD p 0<64:=by decide +kernel
theorem tz64_any (L p:Nat) (w:World) (hL:L<2^64) (hb:L.testBit p=true) (h0:∀ j,j<p->L.testBit j=false) (hp:p<16) (hT:Tz w):
 Calls Tryz.prog 166 #[.int .u64 L] w fun e w'=>e=.returned (.int .i64 p)/\w=w':=by
 have hpos:0<L:=by
  rcases Nat.eq_zero_or_pos L with h|h
  ·rw [h,Nat.zero_testBit] at hb;cases hb
  ·exact h
 obtain ⟨k1,k2⟩:=low_idx p hp;refine tz64_core L p (tzI.getD p 0) w (by simp;omega) ?_ k2 (by omega) (hT p hp)
 have e:IntKind.u64.wrap (-(L:Int))=((2^64-L:Nat):Int):=by
  rw [IntKind.wrap_u64];omega
 rw [e,bits_and_u64_nat L (2^64-L) (by omega) (by omega),low_and hL hb h0 (by omega)];exact k1
theorem pow_u64 {a:Nat} (h:a<64):IntKind.u64.wrap ((2:Int)^a)=((2^a:Nat):Int):=by
 have:2^a<2^64:=Nat.pow_lt_pow_right (by omega) h;rw [IntKind.wrap_u64,pow_int]
 generalize 2^a=p at*
 omega
theorem items_core (S:Int) (r q c v a b:Nat) (w:World) (hS:S=2\/S=3\/S=4) (hr:(c:Int)/S=r) (hq:S+(c:Int)%S=q) (ha:(S+r)*S+v-1=a) (hb:(S+q)*S+v-1=b) (hc:c<16) (ha48:a<48) (hb48:b<48) (hr8:r<8) (hq8:q<8) (hv:v<=4):
 Calls Tryz.prog 164 #[.int .i64 S,.int .i64 c,.int .i64 v] w fun e w'=>e=.returned (.int .u64 ((2^c|||2^a|||2^b:Nat):Int))/\Below w.heap.size w w':=by
 have pc:2^c<2^64:=Nat.pow_lt_pow_right (by omega) (by omega);have pa:2^a<2^64:=Nat.pow_lt_pow_right (by omega) (by omega);have pb:2^b<2^64:=Nat.pow_lt_pow_right (by omega) (by omega);have o1:=Lib.hid (bits_or_u64_nat (2^c) (2^a) (by omega) (by omega));have o2:=Lib.hid (bits_or_u64_nat (2^c|||2^a) (2^b) (by have:=Nat.or_lt_two_pow pc pa;omega) (by omega));have Pc:=Lib.hid (pow_u64 (a:=c) (by omega));have Pa:=Lib.hid (pow_u64 (a:=a) (by omega));have Pb:=Lib.hid (pow_u64 (a:=b) (by omega));have HL:=Lib.hid (linesThrough_rc S c r q w (by omega) (by omega) hc hr hq)
 clear pc pa pb hr hq
 rcases hS with rfl|rfl|rfl
 all_goals
  have Ha:=Lib.hid ha;have Hb:=Lib.hid hb;have ea:IntKind.i64.wrap ((a:Int))=a:=IntWalk.i64_in _ (by omega);clear ha hb
  go_enter Tryz.func164,Tryz.ntmps164
  go_wp2_with (go_at_call 160;refine HL.out.mono ?_;rintro e w1 ⟨rfl,hb1⟩)
  rw [Ha.out,Hb.out]
  go_quiet (fail)
  go_wp2
  go_ret
  refine ⟨?_,below_drewN hb1 _⟩
  show Ending.returned (.int .u64 (bits .or .u64 (bits .or .u64 (IntKind.u64.wrap (2^c)) (IntKind.u64.wrap (2^a))) (IntKind.u64.wrap (2^b))))=_
  rw [Pc.out,Pa.out,Pb.out,o1.out,o2.out]
theorem itemsOf_any (s c v:Nat) (w:World) (hs:s∈[2,3,4]) (hc:c<s*s) (v1:1<=v) (v2:v<=s):
 Calls Tryz.prog 164 #[.int .i64 s,.int .i64 c,.int .i64 v] w fun e w'=>e=.returned (.int .u64 ((itN s c v:Nat):Int))/\Below w.heap.size w w':=by
 refine items_core s (c/s) (s+c%s) c v ((s+c/s)*s+v-1) ((s+(s+c%s))*s+v-1) w ?_ (by simp) (by simp) ?_ ?_ ?_ ?_ ?_ ?_ ?_ ?_
 all_goals
  simp only [List.mem_cons,List.not_mem_nil,or_false] at hs
  rcases hs with rfl|rfl|rfl<;>omega
theorem allItems_any (s:Nat) (w:World) (hs:s∈[2,3,4]):
 Calls Tryz.prog 126 #[.int .i64 s] w fun e w'=>e=.returned (.int .u64 ((2^(3*s*s)-1:Nat):Int))/\w=w':=by
 simp only [List.mem_cons,List.not_mem_nil,or_false] at hs
 rcases hs with rfl|rfl|rfl
 all_goals
  go_enter Tryz.func126,Tryz.ntmps126
  go_wp2
  go_ret
  exact ⟨by kernel_rfl,rfl⟩
theorem max_any (A:Option Addr) (n c B:Nat) (xs:List Int) (w:World) (h:Rd w B A n xs) (hn:0<n) (hm:n<=1099511627776) (hx:∀ i,i<n->0<=nth xs i/\nth xs i<16):
 Calls Tryz.prog 165 #[.slice A n c] w fun e w'=>e=.returned (.int .i64 ((lastN xs n:Nat):Int))/\w=w':=by
 obtain ⟨b,off,rfl,_,hc0⟩:=h.at_ hn
 have hnI:¬ (n:Int)<1:=by omega
 have HX:=Lib.hid hx
 have hlast:∀ u,u<=n->lastN xs u<16:=by
  intro u
  induction u with
  |zero=>intro _;simp [lastN]
  |succ u ih=>
   intro hu;have:=ih (by omega);have:=hx u (by omega);simp only [lastN];omega
 have HLt:=Lib.hid hlast
 have h1:nth xs 0=((lastN xs 1:Nat):Int):=by
  have:=hx 0 hn;simp only [lastN];omega
 rw [h1,Nat.add_zero] at hc0;clear hx h1 hlast
 go_enter Tryz.func165,Tryz.ntmps165
 go_wp2
 go_loopw [3,4] (fun m i wr=>∃ u:Nat,1<=u/\u<=n/\i=.int .i64 u/\m=.int .i64 (lastN xs u:Nat)/\wr=w) (fun _ i _=>n-(intOf i).toNat)
 case atStart=>exact ⟨1,Nat.le_refl _,hn,rfl,rfl,rfl⟩
 case round=>
  obtain ⟨u,hu1,hu,rfl,rfl,rfl⟩:=hrel
  by_cases hlt:u<n
  ·obtain ⟨b',off',e,_,hck⟩:=h.at_ hlt;cases e;have hltI:(u:Int)<(n:Int):=(by omega);obtain ⟨x0,x1⟩:=HX.out u hlt;have hl16:=HLt.out u hu;have Hst:=Lib.hid (show (if ((lastN xs u:Nat):Int)<nth xs u then nth xs u else ((lastN xs u:Nat):Int))=((lastN xs (u+1):Nat):Int) by simp only [lastN];split<;>omega)
   go_wp2
   go_roundw
   case rel=>exact ⟨u+1,by omega,by omega,by go_num,by rw [<- Hst.out],trivial⟩
   case measure=>simp [intOf];omega
  ·obtain rfl:u=n:=by omega
   go_wp2
   go_ret
   exact ⟨rfl,rfl⟩
theorem opt_in {s:Nat} {gi:List Int} {c:Nat} (hok:0<=nth gi c/\nth gi c<=(s:Int)) {v:Int} (h:v∈optL s gi c):∃ u:Nat,v=(u:Int)/\1<=u/\u<=s:=by
 obtain ⟨t,e,t1,t4,hb⟩:=bits_iff.1 h;refine ⟨t,e,t1,?_⟩;unfold candN at hb
 split at hb
 ·next h0=>
  rw [Nat.testBit_two_pow,decide_eq_true_eq] at hb;omega
 ·rw [Int.toNat_natCast] at hb;exact ((candTo_test gi s c t s).1 hb).2.1
theorem nth_mem {xs:List Int} {k:Nat} (h:k<xs.length):nth xs k∈xs:=by
 have:nth xs k=xs[k]:=by simp [nth,List.getD_eq_getElem?_getD,h]
 rw [this];exact List.getElem_mem h
theorem holdsQ_is {rs:List RuleM} {us:List Int} {p:Nat}:holdsQ us (rulesAt rs p)=rlOk rs us p:=by
 unfold holdsQ rlOk;rw [Bool.eq_iff_iff,List.all_eq_true,List.all_eq_true]
 constructor
 ·intro h r hr;obtain ⟨i,hi,rfl⟩:=rat_mem hr;exact h i (List.mem_range.2 hi)
 ·intro h i hi;rw [List.mem_range] at hi;refine h _ ?_
  have:rat (rulesAt rs p) i=(rulesAt rs p)[i]:=by simp [rat,List.getD_eq_getElem?_getD,hi]
  rw [this];exact List.getElem_mem hi
theorem at_ok {s:Nat} {rs:List RuleM} {p:Nat} (hr:∀ i,i<rs.length->rvR s (rat rs i)=true) {i:Nat} (hi:i<(rulesAt rs p).length):rvR s (rat (rulesAt rs p) i)=true/\∀ j,j<(rat (rulesAt rs p) i).xs.length->0<=nth (rat (rulesAt rs p) i).xs j/\(nth (rat (rulesAt rs p) i).xs j).toNat<=p:=by
 have hm:rat (rulesAt rs p) i∈rulesAt rs p:=by
  have:rat (rulesAt rs p) i=(rulesAt rs p)[i]:=by simp [rat,List.getD_eq_getElem?_getD,hi]
  rw [this];exact List.getElem_mem hi
 obtain ⟨h1,h2⟩:=List.mem_filter.1 hm;rw [beq_iff_eq] at h2;obtain ⟨k,hk,e⟩:=rat_mem h1;have hv:=hr k hk;rw [e] at hv;refine ⟨hv,fun j hj=>⟨((rv_cells hv).2 j hj).1,?_⟩⟩;have:=lastN_ge (xs:=(rat (rulesAt rs p) i).xs) hj;unfold lastR at h2;omega
theorem holdsQ_congr {q:List RuleM} {us ys:List Int} {p:Nat} (h:∀ i,i<=p->nth us i=nth ys i) (hq:∀ i,i<q.length->∀ j,j<(rat q i).xs.length->(nth (rat q i).xs j).toNat<=p):holdsQ us q=holdsQ ys q:=by
 unfold holdsQ;rw [Bool.eq_iff_iff,List.all_eq_true,List.all_eq_true]
 have key:∀ i,i<q.length->holdsR us (rat q i)=holdsR ys (rat q i):=fun i hi=>by
  unfold holdsR
  have:pks us (rat q i).xs (rat q i).xs.length=pks ys (rat q i).xs (rat q i).xs.length:=by
   apply ext_nth (by rw [pks_length,pks_length])
   intro k hk;rw [pks_length] at hk;rw [pks_nth hk,pks_nth hk];exact h _ (hq i hi k hk)
  rw [this]
 constructor
 ·intro H i hi;rw [<- key i (List.mem_range.1 hi)];exact H i hi
 ·intro H i hi;rw [key i (List.mem_range.1 hi)];exact H i hi
theorem take_flat {L:List Int} {F:Int->List (List Int)} {u:Nat} (h:u<L.length):(L.take (u+1)).flatMap F=(L.take u).flatMap F++F (nth L u):=by
 rw [List.take_add_one,List.getElem?_eq_getElem h,List.flatMap_append]
 simp [nth,List.getD_eq_getElem?_getD,h]
def CovPost (J:List (List Int)->World->Prop) (Jx:World->Prop) (M lo G n:Nat) (vs:List Int) (X:World) (ways:List (List Int)) (e:Ending) (Y:World):Prop:=
 (e=.returned (.bool true)/\J ways Y/\MidX M G X Y/\∃ ys,Ow Y lo (some ⟨G,0,none⟩) n n ys/\∀ i,i<vs.length->nth ys i=nth vs i)\/(e=.returned (.bool false)/\Jx Y)
theorem SBox.midx {w w':World} {M g G0 G OB RB n:Nat} (h:SBox w g G OB RB n) (hm:MidX M G0 w w') (h1:M<=g) (h2:g≠G0):SBox w' g G OB RB n:=
 ⟨hm.cell h.1 h1 h2,hm.cell h.2.1 h1 h2,hm.cell h.2.2 h1 h2⟩
theorem own_cells {w:World} {lo sz k cap:Nat} {t:TypeId} {A:Option Addr} {vs:List Value} (h:w.ownsRow lo t sz (.slice A k cap) k vs) (hk:0<k):∃ g,A=some ⟨g,0,none⟩/\lo<=g/\g<w.heap.size/\∀ j u,vs[j]? =some u->w.cell? ⟨g,j,none⟩=some u:=by
 obtain ⟨hvl,hcase⟩:=id h
 rcases hcase with ⟨_,h0⟩|⟨g,cap',cur,hv,hlog,hrow,h1,h2,h3,h4⟩
 ·omega
 ·injection hv with hA _ _
  subst hA;refine ⟨g,rfl,hlog,(Array.getElem?_eq_some_iff.1 hrow).1,fun j u hj=>?_⟩;rw [cell_of_row w g j cur _ _ hrow];rw [<- h4,List.getElem?_take] at hj
  split at hj
  ·simpa using hj
  ·cases hj
theorem own_kept {w w':World} {lo sz k:Nat} {t:TypeId} {v:Value} {vs:List Value} {row:Option Nat} (h:w.ownsRow lo t sz v k vs) (hg:w.grownBy w' row) (hne:∀ g,v.ownBlock=some g->row≠some g):w'.ownsRow lo t sz v k vs:=by
 refine World.ownsRow.kept h hg ?_
 cases e:v.ownBlock with
 |none=>exact .inl rfl
 |some g=>exact .inr (fun he=>hne g e he.symm)
theorem own_below {w w':World} {lo sz k:Nat} {t:TypeId} {v:Value} {vs:List Value} (h:w.ownsRow lo t sz v k vs) (hb:Below w.heap.size w w'):w'.ownsRow lo t sz v k vs:=
 own_kept (row:=none) h ⟨hb.os,hb.tape,hb.output,hb.size,fun k hk _=>hb.block k hk⟩ (fun g _ e=>by cases e)
def PsG (SB f OB c n:Nat) (A:Option Addr) (t cap:Nat) (cells:Array Value) (elT:TypeId) (sz lo:Nat) (vs:List Value) (B:Nat):Nat->Value->World->Prop
 |0,v,_=>v=.pointer (some ⟨SB,f,none⟩)
 |1,v,_=>v=.slice (some ⟨OB,0,none⟩) n n
 |2,v,_=>v=.int .i64 (c:Nat)
 |3,v,_=>v=.pointer (some ⟨SB,f,none⟩)
 |4,v,_=>v=.slice (some ⟨OB,0,none⟩) n n
 |5,v,_=>v=.int .i64 (c:Nat)
 |6,v,_=>v=.pointer (some ⟨OB,c,none⟩)
 |7,v,_=>v=.slice A t cap
 |8,v,_=>v=.agg cells
 |9,v,w=>∃ g,v=.slice (some ⟨g,0,none⟩) 1 1/\w.heap[g]? =some (.cells cells elT)/\(Value.slice A t cap).ownBlock≠some g
 |10,v,w=>∃ g' cap',v=.slice (some ⟨g',0,none⟩) (t+1) cap'/\w.ownsRow lo elT sz (.slice (some ⟨g',0,none⟩) (t+1) cap') (t+1) (vs++cells.toList)/\((Value.slice A t cap).ownBlock=some g'\/B<=g')
 |11,v,_=>v=.pointer (some ⟨OB,c,none⟩)
 |_,_,_=>True
theorem psG_eff {SB f OB c n:Nat} {A:Option Addr} {t cap:Nat} {cells:Array Value} {elT:TypeId} {sz lo:Nat} {vs:List Value} {B:Nat} (j i:Nat) (v:Value) (w1 w2:World) (hji:j≠i) (he:(i=10->w1.grownBy w2 (Value.slice A t cap).ownBlock)/\(i≠10->Below w1.heap.size w1 w2)) (h:PsG SB f OB c n A t cap cells elT sz lo vs B j v w1):PsG SB f OB c n A t cap cells elT sz lo vs B j v w2:=by
 unfold PsG at h ⊢
 split at h
 all_goals first
  |exact h
  |(obtain ⟨g,e,h1,h2⟩:=h
    refine ⟨g,e,?_,h2⟩
    by_cases hi:i=10
    ·exact ((he.1 hi).block g (Array.getElem?_eq_some_iff.1 h1).1 (fun e2=>h2 e2.symm)).trans h1
    ·exact ((he.2 hi).block g (Array.getElem?_eq_some_iff.1 h1).1).trans h1)
  |(obtain ⟨g',cap',e,h1,h2⟩:=h
    exact ⟨g',cap',e,own_below h1 (he.2 (fun e2=>hji e2.symm)),h2⟩)
theorem flat2_get {α β:Type} (f:α->β×β):∀ (L:List α) (i:Nat) (hi:i<L.length),(L.flatMap fun x=>[(f x).1,(f x).2])[i*2]? =some (f L[i]).1/\(L.flatMap fun x=>[(f x).1,(f x).2])[i*2+1]? =some (f L[i]).2:=by
 intro L
 induction L with
 |nil=>intro i hi;cases hi
 |cons a L ih=>
  intro i hi
  match i,hi with
  |0,_=>simp
  |i+1,hi=>
   have:=ih i (by simpa using hi);simp only [List.flatMap_cons,List.cons_append,List.nil_append,show (i+1)*2=i*2+2 by omega,show i*2+2+1=(i*2+1)+2 by omega,List.getElem?_cons_succ,List.getElem_cons_succ];exact this
theorem flat3_get {α β:Type} (f:α->β×β×β):∀ (L:List α) (i:Nat) (hi:i<L.length),(L.flatMap fun x=>[(f x).1,(f x).2.1,(f x).2.2])[i*3]? =some (f L[i]).1/\(L.flatMap fun x=>[(f x).1,(f x).2.1,(f x).2.2])[i*3+1]? =some (f L[i]).2.1/\(L.flatMap fun x=>[(f x).1,(f x).2.1,(f x).2.2])[i*3+2]? =some (f L[i]).2.2:=by
 intro L
 induction L with
 |nil=>intro i hi;cases hi
 |cons a L ih=>
  intro i hi
  match i,hi with
  |0,_=>simp
  |i+1,hi=>
   have:=ih i (by simpa using hi);simp only [List.flatMap_cons,List.cons_append,List.nil_append,show (i+1)*3=i*3+3 by omega,show i*3+3+1=(i*3+1)+3 by omega,show i*3+3+2=(i*3+2)+3 by omega,List.getElem?_cons_succ,List.getElem_cons_succ];exact this
def optP (s c:Nat) (x:Int):Value×Value:=(.int .i64 x,.int .u64 ((itN s c x.toNat:Nat):Int))
def optV (s c:Nat) (vs:List Int):List Value:=vs.flatMap fun x=>[(optP s c x).1,(optP s c x).2]
theorem optV_push (s c:Nat) (vs:List Int) (x:Int):optV s c (vs++[x])=optV s c vs++[.int .i64 x,.int .u64 ((itN s c x.toNat:Nat):Int)]:=by
 simp [optV,optP]
def rulP (RA:Nat->Option Addr) (RC:Nat->Nat) (rs:List RuleM) (i:Nat):Value×Value×Value:=(.int .i64 (rat rs i).k,.slice (RA i) (rat rs i).xs.length (RC i),.int .i64 (rat rs i).v)
def rulV (RA:Nat->Option Addr) (RC:Nat->Nat) (rs:List RuleM) (L:List Nat):List Value:=L.flatMap fun i=>[(rulP RA RC rs i).1,(rulP RA RC rs i).2.1,(rulP RA RC rs i).2.2]
theorem rulV_push (RA:Nat->Option Addr) (RC:Nat->Nat) (rs:List RuleM) (L:List Nat) (i:Nat):rulV RA RC rs (L++[i])=rulV RA RC rs L++[.int .i64 (rat rs i).k,.slice (RA i) (rat rs i).xs.length (RC i),.int .i64 (rat rs i).v]:=by
 simp [rulV,rulP]
def ixR (rs:List RuleM) (c r:Nat):List Nat:=(List.range r).filter fun i=>lastR (rat rs i)==c
theorem ixR_succ (rs:List RuleM) (c r:Nat):ixR rs c (r+1)=ixR rs c r++(if lastR (rat rs r)=c then [r] else []):=by
 unfold ixR;rw [List.range_succ,List.filter_append]
 congr 1
 by_cases h:lastR (rat rs r)=c
 ·rw [if_pos h];simp [h]
 ·rw [if_neg h];simp [h]
theorem rulesAt_ix (rs:List RuleM) (c:Nat):rulesAt rs c=(ixR rs c rs.length).map (rat rs):=by
 unfold rulesAt ixR
 have key:rs=(List.range rs.length).map (rat rs):=by
  apply List.ext_getElem
  ·simp
  ·intro i h1 h2
   simp [rat,List.getD_eq_getElem?_getD,h1]
 conv=>lhs;rw [key]
 rw [List.filter_map];rfl
def rowsArr (R:Nat->Value) (n:Nat):Array Value:=((List.range n).map R).toArray
theorem rowsArr_size (R:Nat->Value) (n:Nat):(rowsArr R n).size=n:=by simp [rowsArr]
theorem rowsArr_get {R:Nat->Value} {n c:Nat} (h:c<n):(rowsArr R n)[c]? =some (R c):=by simp [rowsArr,h]
def updR (R:Nat->Value) (c:Nat) (v:Value):Nat->Value:=fun j=>if j=c then v else R j
theorem rowsArr_set (R:Nat->Value) (n c:Nat) (v:Value):(rowsArr R n).setIfInBounds c v=rowsArr (updR R c v) n:=by
 apply Array.ext_getElem?
 intro i;rw [Array.getElem?_setIfInBounds]
 by_cases hi:i<n
 ·rw [rowsArr_get hi,rowsArr_get hi,rowsArr_size];unfold updR
  by_cases e:c=i
  ·subst e;rw [if_pos rfl,if_pos hi,if_pos rfl]
  ·rw [if_neg e,if_neg (fun e'=>e e'.symm)]
 ·rw [Array.getElem?_eq_none (by rw [rowsArr_size];omega),Array.getElem?_eq_none (by rw [rowsArr_size];omega)]
  split
  ·rename_i e;rw [rowsArr_size,if_neg (by omega)]
  ·rfl
def Arr (w:World) (g:Nat) (t:TypeId) (R:Nat->Value) (n:Nat):Prop:=w.heap[g]? =some (.cells (rowsArr R n) t)
theorem Arr.lt {w:World} {g n:Nat} {t:TypeId} {R:Nat->Value} (h:Arr w g t R n):g<w.heap.size:=(Array.getElem?_eq_some_iff.1 h).1
theorem Arr.cell {w:World} {g n c:Nat} {t:TypeId} {R:Nat->Value} (h:Arr w g t R n) (hc:c<n):w.cell? ⟨g,c,none⟩=some (R c):=(cell_of_row w g c _ _ _ h).trans (rowsArr_get hc)
theorem Arr.free {w:World} {g n:Nat} {t:TypeId} {R:Nat->Value} (h:Arr w g t R n) (c:Nat):w.frozen? ⟨g,c,none⟩=false:=frozen_of_row w g c _ _ h
theorem Arr.set {w:World} {g n:Nat} {t:TypeId} {R:Nat->Value} (h:Arr w g t R n) (c:Nat) (v:Value):Arr (w.setCell ⟨g,c,none⟩ v) g t (updR R c v) n:=by
 unfold Arr;rw [heap_setCell_same w g c _ _ _ h,rowsArr_set]
theorem Arr.kept {w w':World} {g n:Nat} {t:TypeId} {R:Nat->Value} (h:Arr w g t R n) (e:w'.heap[g]? =w.heap[g]?):Arr w' g t R n:=e.trans h
theorem nils_arr (n:Nat):madeCells #[Value.slice none 0 0] n=rowsArr (fun _=>.slice none 0 0) n:=by
 apply Array.toList_inj.1
 rw [toList_madeCells_one]
 simp [rowsArr]
 apply List.ext_getElem<;>simp
theorem rdo_own {w:World} {lo L s c cap:Nat} {A:Option Addr} {vs:List Int} (h:w.ownsRow lo 166 2 (.slice A vs.length cap) vs.length (optV s c vs)) (hL:L<=lo):RdO w L A s c vs:=fun hn=>by
 obtain ⟨g,rfl,hg,_,hc⟩:=own_cells h hn;refine ⟨g,rfl,by omega,fun i hi=>?_⟩;obtain ⟨f1,f2⟩:=flat2_get (optP s c) vs i hi
 have e:nth vs i=vs[i]:=by simp [nth,List.getD_eq_getElem?_getD,hi]
 rw [e];exact ⟨hc _ _ f1,hc _ _ f2⟩
theorem rdw_own {W0 w:World} {B0 lo L k cap c:Nat} {A:Option Addr} {RA:Nat->Option Addr} {RC:Nat->Nat} {rs:List RuleM} (h:w.ownsRow lo 88 3 (.slice A k cap) k (rulV RA RC rs (ixR rs c rs.length))) (hk:k=(ixR rs c rs.length).length) (hL:L<=lo)
 (hR:∀ i,i<rs.length->Rd W0 B0 (RA i) (rat rs i).xs.length (rat rs i).xs/\(rat rs i).xs.length<=RC i):RdW W0 B0 w L A (rulesAt rs c):=fun hn=>by
 have hlen:(rulesAt rs c).length=(ixR rs c rs.length).length:=by rw [rulesAt_ix,List.length_map]
 obtain ⟨g,rfl,hg,_,hc⟩:=own_cells h (by omega);refine ⟨g,rfl,by omega,fun i hi=>?_⟩
 have hi':i<(ixR rs c rs.length).length:=by omega
 obtain ⟨f1,f2,f3⟩:=flat3_get (rulP RA RC rs) (ixR rs c rs.length) i hi'
 have e:rat (rulesAt rs c) i=rat rs (ixR rs c rs.length)[i]:=by
  rw [rulesAt_ix]
  show ((ixR rs c rs.length).map (rat rs)).getD i rnone=_
  rw [List.getD_eq_getElem?_getD,List.getElem?_map,List.getElem?_eq_getElem hi'];rfl
 have hm:(ixR rs c rs.length)[i]<rs.length:=by
  have:=List.getElem_mem hi';exact List.mem_range.1 (List.mem_filter.1 this).1
 rw [e];obtain ⟨r1,r2⟩:=hR _ hm;exact ⟨_,_,hc _ _ f1,hc _ _ f2,hc _ _ f3,r1,r2⟩
theorem ow_row {w:World} {lo g n:Nat} (h:w.heap[g]? =some (.cells (zeroArr n) 3)) (hlo:lo<=g) (hn:n<=1099511627776):Ow w lo (some ⟨g,0,none⟩) n n (zeros n):=by
 have hz:(zeroArr n).toList=vals (zeros n):=by
  rw [zeroArr,toList_madeCells_one]
  simp [vals,zeros]
 have hsz:(zeroArr n).size=n:=by simp [zeroArr,madeCells]
 refine ⟨by simp [vals,zeros],.inr ⟨g,n,zeroArr n,rfl,hlo,h,?_,?_,?_,?_⟩⟩
 all_goals first|(simp only [maxLen];omega)|(rw [hsz];omega)|(rw [hz,Nat.mul_one,List.take_of_length_le (by simp [vals,zeros])])|omega
theorem rdrc_fun {W:World} {B n:Nat} {A:Option Addr} {rs:List RuleM} (h:RdRc W B A n rs):∃ (b off:Nat) (RA:Nat->Option Addr) (RC:Nat->Nat),(0<n->A=some ⟨b,off,none⟩/\b<B)/\∀ i,i<n->W.cell? ⟨b,off+i*3,none⟩=some (.int .i64 (rat rs i).k)/\W.cell? ⟨b,off+i*3+1,none⟩=some (.slice (RA i) (rat rs i).xs.length (RC i))/\W.cell? ⟨b,off+i*3+2,none⟩=some (.int .i64 (rat rs i).v)/\Rd W B (RA i) (rat rs i).xs.length (rat rs i).xs/\(rat rs i).xs.length<=RC i:=by
 by_cases h0:0<n
 ·obtain ⟨b,off,e,hlt,hc⟩:=h.2 h0
  have key:∀ i,∃ q:Option Addr×Nat,i<n->W.cell? ⟨b,off+i*3,none⟩=some (.int .i64 (rat rs i).k)/\W.cell? ⟨b,off+i*3+1,none⟩=some (.slice q.1 (rat rs i).xs.length q.2)/\W.cell? ⟨b,off+i*3+2,none⟩=some (.int .i64 (rat rs i).v)/\Rd W B q.1 (rat rs i).xs.length (rat rs i).xs/\(rat rs i).xs.length<=q.2:=fun i=>by
   by_cases hi:i<n
   ·obtain ⟨A',c',a0,a1,a2,a3,_,a5⟩:=hc i hi;exact ⟨(A',c'),fun _=>⟨a0,a1,a2,a3,a5⟩⟩
   ·exact ⟨(none,0),fun h=>absurd h hi⟩
  obtain ⟨f,hf⟩:=Classical.axiomOfChoice key;exact ⟨b,off,fun i=>(f i).1,fun i=>(f i).2,fun _=>⟨e,hlt⟩,hf⟩
 ·exact ⟨0,0,fun _=>none,fun _=>0,fun h=>absurd h h0,fun i hi=>absurd hi (by omega)⟩
theorem gv_okAll {xs:List Int} {size:Int} {n:Nat} (hg:gv xs size=true) (hl:xs.length=n):okAll xs size n:=fun k hk=>gv_nth hg (by rw [hl];exact hk)
def onL (s l i:Nat):Bool:=i/s==l||s+i%s==l
theorem onL_adj:∀ s∈[2,3,4],∀ i,i<s*s->∀ j,j<s*s->adj s i j=(i != j&&(onL s (j/s) i||onL s (s+j%s) i)):=by decide +kernel
def bump (C:Nat->Nat) (j:Nat):Nat->Nat:=fun i=>if i=j then C i+1 else C i
def cnt (xs:List Int) (s:Nat):Nat->(Nat->Nat)
 |0=>fun _=>0
 |k+1=>bump (bump (cnt xs s k) (k/s*5+(nth xs k).toNat)) ((s+k%s)*5+(nth xs k).toNat)
theorem bump_zero (C:Nat->Nat) (a b j:Nat):bump (bump C a) b j=0↔C j=0/\j≠a/\j≠b:=by
 show (if j=b then (if j=a then C j+1 else C j)+1 else (if j=a then C j+1 else C j))=0↔_
 split<;>split<;>omega
theorem bump_le (C:Nat->Nat) (a j:Nat):bump C a j<=C j+1:=by
 unfold bump
 split<;>omega
theorem cnt_le (xs:List Int) (s k j:Nat):cnt xs s k j<=2*k:=by
 induction k with
 |zero=>simp [cnt]
 |succ k ih=>
  simp only [cnt];have h1:=bump_le (bump (cnt xs s k) (k/s*5+(nth xs k).toNat)) ((s+k%s)*5+(nth xs k).toNat) j;have h2:=bump_le (cnt xs s k) (k/s*5+(nth xs k).toNat) j;omega
theorem cnt_zero {xs:List Int} {s n:Nat} (hs4:s<=4) (hok:okAll xs s n) (l v:Nat) (hv:v<5):∀ k,k<=n->(cnt xs s k (l*5+v)=0↔∀ i,i<k->onL s l i=true->nth xs i≠(v:Int)):=by
 intro k
 induction k with
 |zero=>intro _;simp [cnt]
 |succ k ih=>
  intro hk;obtain ⟨x0,x4⟩:=hok k (by omega);simp only [cnt];rw [bump_zero,ih (by omega)]
  have hon:onL s l k=true↔(k/s=l\/s+k%s=l):=by simp [onL]
  constructor
  ·rintro ⟨h0,h1,h2⟩ i hi ho he
   by_cases e:i=k
   ·subst e
    rcases hon.1 ho with h|h
    ·exact h1 (by rw [h];omega)
    ·exact h2 (by rw [h];omega)
   ·exact h0 i (by omega) ho he
  ·intro h;refine ⟨fun i hi=>h i (by omega),fun e=>?_,fun e=>?_⟩
   ·exact h k (by omega) (hon.2 (.inl (by omega))) (by omega)
   ·exact h k (by omega) (hon.2 (.inr (by omega))) (by omega)
def freeTo (C:Nat->Nat) (r c:Nat):Nat->Nat
 |0=>0
 |v+1=>if C (r*5+(v+1))+C (c*5+(v+1))=0 then freeTo C r c v|||2^(v+1) else freeTo C r c v
theorem freeTo_lt (C:Nat->Nat) (r c v:Nat) (hv:v<=4):freeTo C r c v<32:=by
 induction v with
 |zero=>simp [freeTo]
 |succ v ih=>
  simp only [freeTo]
  split
  ·exact Nat.or_lt_two_pow (n:=5) (ih (by omega)) (Nat.pow_lt_pow_right (by omega) (by omega))
  ·exact ih (by omega)
theorem free_cand {xs:List Int} {s n k:Nat} (hs:s∈[2,3,4]) (hn:n=s*s) (hok:okAll xs s n) (hk:k<n) (hz:nth xs k=0):∀ v,v<=s->freeTo (cnt xs s n) (k/s) (s+k%s) v=candTo xs s k v:=by
 have hs4:s<=4:=by simp at hs;omega
 intro v
 induction v with
 |zero=>intro _;rfl
 |succ v ih=>
  intro hv;simp only [freeTo,candTo,Int.toNat_natCast]
  have hc:((v:Int)+1)=((v+1:Nat):Int):=by omega
  have key:cnt xs s n (k/s*5+(v+1))+cnt xs s n ((s+k%s)*5+(v+1))=0↔okTo3 xs s k ((v:Int)+1) s=true:=by
   rw [hc,ok3_adj hs (by omega),Nat.add_eq_zero_iff,cnt_zero hs4 hok _ _ (by omega) n (Nat.le_refl _),cnt_zero hs4 hok _ _ (by omega) n (Nat.le_refl _)]
   constructor
   ·rintro ⟨h1,h2⟩ i hi ha;rw [onL_adj s hs i hi k (by omega)] at ha;simp only [Bool.and_eq_true,Bool.or_eq_true] at ha
    rcases ha.2 with h|h
    ·exact h1 i (by omega) h
    ·exact h2 i (by omega) h
   ·intro h
    have side:∀ l,(l=k/s\/l=s+k%s)->∀ i,i<n->onL s l i=true->nth xs i≠((v+1:Nat):Int):=by
     intro l hl i hi ho
     by_cases e:i=k
     ·subst e;rw [hz];omega
     ·refine h i (by omega) ?_;rw [onL_adj s hs i (by omega) k (by omega)]
      rcases hl with rfl|rfl
      ·simp [ho,e]
      ·simp [ho,e]
    exact ⟨side _ (.inl rfl),side _ (.inr rfl)⟩
  rw [ih (by omega)]
  by_cases h:cnt xs s n (k/s*5+(v+1))+cnt xs s n ((s+k%s)*5+(v+1))=0
  ·rw [if_pos h,if_pos (key.1 h)]
  ·rw [if_neg h,if_neg (fun h'=>h (key.2 h'))]
theorem valuesIn_any (M:Nat) (hM:M<32) (w:World):Calls Tryz.prog 163 #[.int .i64 M] w (RetSl w (bitsTo M 4)):=by
 go_enter Tryz.func163,Tryz.ntmps163
 go_wp2
 go_loopw [3,4] (fun v i wr=>∃ u:Nat,u<=4/\i=.int .i64 ((u:Int)+1)/\OwV wr w.heap.size v (bitsTo M u)/\Below w.heap.size w wr) (fun _ i _=>(5-intOf i).toNat)
 case atStart=>exact ⟨0,by omega,rfl,⟨_,_,rfl,Ow.nil_ _ _⟩,Below.refl _ _⟩
 case round=>
  obtain ⟨u,hu,rfl,⟨A',c',rfl,ho⟩,hb⟩:=hrel;have hmb:=bitsTo_length M u
  have hkb:(bitsTo M u).length<=1099511627776:=by omega
  by_cases hlt:u<4
  ·have hstep:bitsTo M (u+1)=bitsTo M u++(if M.testBit (u+1)=true then [(u:Int)+1] else []):=rfl;have hsh:=and_pow M (u+1) hM (by omega);have htn:((u:Int)+1).toNat=u+1:=(by omega);cases hh:M.testBit (u+1)
   ·rw [hh] at hstep hsh;have Hst:=Lib.hid (show bitsTo M (u+1)=bitsTo M u by rw [hstep];simp);clear hh hstep
    go_wp2
    go_roundw
    case rel=>exact ⟨u+1,by omega,by go_num,⟨A',c',by rw [Hst.out],by rw [Hst.out];exact ho⟩,hb⟩
    case measure=>simp [intOf];omega
   ·rw [hh] at hstep hsh;have Hst:=Lib.hid (show bitsTo M (u+1)=bitsTo M u++[(u:Int)+1] by rw [hstep];simp);clear hh hstep
    go_wp2_with (at_builtin;refine push_int rfl (.tmp 14) (.tmp 16) rfl w.heap.size A' _ c' (bitsTo M u) _ rfl rfl ho hkb hb.size ?_;intro A'' c'' w1 ho1 hg1)
    have ho2:OwV w1 w.heap.size (.slice A'' ((bitsTo M u).length+1) c'') (bitsTo M (u+1)):=by
     refine ⟨A'',c'',by rw [Hst.out,List.length_append];rfl,?_⟩;rw [Hst.out,List.length_append];exact ho1
    have hb2:=push_below hb ho (Nat.le_refl _) hb.size hg1;clear ho1 hg1
    go_roundw
    case rel=>exact ⟨u+1,by omega,by go_num,ho2,hb2⟩
    case measure=>simp [intOf];omega
  ·obtain rfl:u=4:=by omega
   go_wp2
   go_ret
   exact retSl_mk ho hb
theorem MBox.lt {w:World} {g:Nat} {M:Nat->Nat} {s:Int} (h:MBox w g M s):g<w.heap.size:=(Array.getElem?_eq_some_iff.1 h).1
theorem MBox.row_other {w:World} {g g':Nat} {cs:Array Value} {M:Nat->Nat} {s:Int} (h:MBox w g M s) (hne:g≠g'):MBox (w.setRow g' cs) g M s:=by
 unfold MBox World.setRow;simp only [Array.getElem?_modify];rw [if_neg (fun e=>hne e.symm)];exact h
theorem rc_lt:∀ s∈[2,3,4],∀ k,k<s*s->k/s<8/\s+k%s<8:=by decide +kernel
def ccells (C:Nat->Nat) (s:Int):Array Value:= #[.int .i64 (C 0),.int .i64 (C 1),.int .i64 (C 2),.int .i64 (C 3),.int .i64 (C 4),.int .i64 (C 5),.int .i64 (C 6),.int .i64 (C 7),.int .i64 (C 8),.int .i64 (C 9),.int .i64 (C 10),.int .i64 (C 11),.int .i64 (C 12),.int .i64 (C 13),.int .i64 (C 14),.int .i64 (C 15),.int .i64 (C 16),.int .i64 (C 17),.int .i64 (C 18),.int .i64 (C 19),.int .i64 (C 20),.int .i64 (C 21),.int .i64 (C 22),.int .i64 (C 23),.int .i64 (C 24),.int .i64 (C 25),.int .i64 (C 26),.int .i64 (C 27),.int .i64 (C 28),.int .i64 (C 29),.int .i64 (C 30),.int .i64 (C 31),.int .i64 (C 32),.int .i64 (C 33),.int .i64 (C 34),.int .i64 (C 35),.int .i64 (C 36),.int .i64 (C 37),.int .i64 (C 38),.int .i64 (C 39),.int .i64 s]
theorem ccells_size (C:Nat->Nat) (s:Int):(ccells C s).size=41:=rfl
theorem ccell_at (C:Nat->Nat) (s:Int):∀ {l:Nat},l<40->(ccells C s)[l]? =some (.int .i64 (C l))
 |0,_=>rfl
 |1,_=>rfl
 |2,_=>rfl
 |3,_=>rfl
 |4,_=>rfl
 |5,_=>rfl
 |6,_=>rfl
 |7,_=>rfl
 |8,_=>rfl
 |9,_=>rfl
 |10,_=>rfl
 |11,_=>rfl
 |12,_=>rfl
 |13,_=>rfl
 |14,_=>rfl
 |15,_=>rfl
 |16,_=>rfl
 |17,_=>rfl
 |18,_=>rfl
 |19,_=>rfl
 |20,_=>rfl
 |21,_=>rfl
 |22,_=>rfl
 |23,_=>rfl
 |24,_=>rfl
 |25,_=>rfl
 |26,_=>rfl
 |27,_=>rfl
 |28,_=>rfl
 |29,_=>rfl
 |30,_=>rfl
 |31,_=>rfl
 |32,_=>rfl
 |33,_=>rfl
 |34,_=>rfl
 |35,_=>rfl
 |36,_=>rfl
 |37,_=>rfl
 |38,_=>rfl
 |39,_=>rfl
 |n+40,h=>absurd h (by omega)
theorem ccells_set (C:Nat->Nat) (s:Int):∀ {l:Nat},l<40->(ccells C s).setIfInBounds l (.int .i64 ((C l+1:Nat):Int))=ccells (bump C l) s
 |0,_=>rfl
 |1,_=>rfl
 |2,_=>rfl
 |3,_=>rfl
 |4,_=>rfl
 |5,_=>rfl
 |6,_=>rfl
 |7,_=>rfl
 |8,_=>rfl
 |9,_=>rfl
 |10,_=>rfl
 |11,_=>rfl
 |12,_=>rfl
 |13,_=>rfl
 |14,_=>rfl
 |15,_=>rfl
 |16,_=>rfl
 |17,_=>rfl
 |18,_=>rfl
 |19,_=>rfl
 |20,_=>rfl
 |21,_=>rfl
 |22,_=>rfl
 |23,_=>rfl
 |24,_=>rfl
 |25,_=>rfl
 |26,_=>rfl
 |27,_=>rfl
 |28,_=>rfl
 |29,_=>rfl
 |30,_=>rfl
 |31,_=>rfl
 |32,_=>rfl
 |33,_=>rfl
 |34,_=>rfl
 |35,_=>rfl
 |36,_=>rfl
 |37,_=>rfl
 |38,_=>rfl
 |39,_=>rfl
 |n+40,h=>absurd h (by omega)
theorem cone (C:Nat->Nat) (s:Int):(ccells C s).all (·.oneCell')=true:=by simp [ccells,Value.oneCell']
def CBox (w:World) (g:Nat) (C:Nat->Nat) (s:Int):Prop:=w.heap[g]? =some (.cells (ccells C s) 191)
section
variable {w w' : World} {g : Nat} {C : Nat → Nat} {s : Int}
theorem CBox.lt (h:CBox w g C s):g<w.heap.size:=(Array.getElem?_eq_some_iff.1 h).1
theorem CBox.cell (h:CBox w g C s) {l:Nat} (hl:l<40):w.cell? ⟨g,l,none⟩=some (.int .i64 (C l)):=
 (cell_of_row _ _ l _ _ (0,0) h).trans (ccell_at C s hl)
theorem CBox.size_ (h:CBox w g C s):w.cell? ⟨g,40,none⟩=some (.int .i64 s):=
 (cell_of_row _ _ 40 _ _ (0,0) h).trans rfl
theorem CBox.frozen (h:CBox w g C s) (l:Nat):w.frozen? ⟨g,l,none⟩=false:=by
 unfold World.frozen?;rw [show w.heap[g]? =_ from h]
 simp
theorem CBox.set (h:CBox w g C s) {l:Nat} (hl:l<40):CBox (w.setCell ⟨g,l,none⟩ (.int .i64 ((C l:Int)+1))) g (bump C l) s:=by
 show CBox (w.setCell ⟨g,l,none⟩ (.int .i64 ((C l+1:Nat):Int))) g (bump C l) s
 unfold CBox;rw [heap_setCell_same w g l _ _ _ h,<-ccells_set C s hl]
theorem CBox.below {B:Nat} (h:CBox w g C s) (hg:g<B) (hb:Below B w w'):CBox w' g C s:=(hb.block g hg).trans h
theorem CBox.other {g' k:Nat} {v:Value} (h:CBox w g C s) (hne:g≠g'):CBox (w.setCell ⟨g',k,none⟩ v) g C s:=(heap_setCell_other w _ g v hne).trans h
theorem CBox.stored {C':Nat->Nat} {s':Int} (h:CBox w g C s):CBox (w.setRow g (ccells C' s')) g C' s':=setRow_heap w g _ _ _ _ h
end
theorem cinfo (C:Nat->Nat) (s:Int):(Tryz.prog.info? 191).map (·.size)=some (ccells C s).size:=by rw [ccells_size];kernel_rfl
def czero (s:Int):Array Value:= #[.int .i64 0,.int .i64 0,.int .i64 0,.int .i64 0,.int .i64 0,.int .i64 0,.int .i64 0,.int .i64 0,.int .i64 0,.int .i64 0,.int .i64 0,.int .i64 0,.int .i64 0,.int .i64 0,.int .i64 0,.int .i64 0,.int .i64 0,.int .i64 0,.int .i64 0,.int .i64 0,.int .i64 0,.int .i64 0,.int .i64 0,.int .i64 0,.int .i64 0,.int .i64 0,.int .i64 0,.int .i64 0,.int .i64 0,.int .i64 0,.int .i64 0,.int .i64 0,.int .i64 0,.int .i64 0,.int .i64 0,.int .i64 0,.int .i64 0,.int .i64 0,.int .i64 0,.int .i64 0,.int .i64 s]
theorem czero_is (s:Int):czero s=ccells (fun _=>0) s:=by
 unfold czero ccells
 simp
def cstart (A:Option Addr) (n c:Nat) (s:Int) (w:World):World:=((w.alloc (.cells #[.slice A n c,.int .i64 s] 75)).alloc (.cells (czero 0) 191)).alloc (.cells (czero 0) 191)
theorem cstart_facts (A:Option Addr) (n c:Nat) (s:Int) (w:World):CBox (cstart A n c s w) (w.heap.size+1+1) (fun _=>0) 0/\CBox (cstart A n c s w) (w.heap.size+1) (fun _=>0) 0/\(cstart A n c s w).cell? ⟨w.heap.size,0,none⟩=some (.slice A n c)/\(cstart A n c s w).cell? ⟨w.heap.size,1,none⟩=some (.int .i64 s)/\Below w.heap.size w (cstart A n c s w):=by
 unfold cstart;rw [czero_is];refine ⟨?_,?_,?_,?_,(((Below.refl _ _).alloc (Nat.le_refl _) _).alloc (by simp) _).alloc (by simp;omega) _⟩
 ·have:=heap_alloc_new ((w.alloc (Obj.cells #[Value.slice A n c,Value.int IntKind.i64 s] 75)).alloc (Obj.cells (ccells (fun _=>0) 0) 191)) (.cells (ccells (fun _=>0) 0) 191);simp only [World.size_alloc] at this;exact this
 ·have:=heap_alloc_new (w.alloc (Obj.cells #[Value.slice A n c,Value.int IntKind.i64 s] 75)) (.cells (ccells (fun _=>0) 0) 191);simp only [World.size_alloc] at this;exact (heap_alloc_old _ _ (by simp)).trans this
 ·refine (cell_of_row _ _ 0 #[.slice A n c,.int .i64 s] 75 (0,0) ?_).trans rfl;rw [heap_alloc_old _ _ (by simp;omega),heap_alloc_old _ _ (by simp)];exact heap_alloc_new w _
 ·refine (cell_of_row _ _ 1 #[.slice A n c,.int .i64 s] 75 (0,0) ?_).trans rfl;rw [heap_alloc_old _ _ (by simp;omega),heap_alloc_old _ _ (by simp)];exact heap_alloc_new w _
theorem cell_other {w:World} {g g' k j:Nat} {v:Value} (h:g≠g'):(w.setCell ⟨g',k,none⟩ v).cell? ⟨g,j,none⟩=w.cell? ⟨g,j,none⟩:=by
 unfold World.cell?;rw [heap_setCell_other w ⟨g',k,none⟩ g v h]
theorem setRow_cell {w:World} {g:Nat} {cs:Array Value} {p:Addr} (h:p.block≠g):(w.setRow g cs).cell? p=w.cell? p:=cell_setRow_other w g cs p h
theorem CBox.row_other {w:World} {g g':Nat} {cs:Array Value} {C:Nat->Nat} {s:Int} (h:CBox w g C s) (hne:g≠g'):CBox (w.setRow g' cs) g C s:=by
 unfold CBox World.setRow;simp only [Array.getElem?_modify];rw [if_neg (fun e=>hne e.symm)];exact h
theorem counted_any (A:Option Addr) (c n B s:Nat) (xs:List Int) (w:World) (h:Rd w B A n xs) (hB:B<=w.heap.size) (hs:s∈[2,3,4]) (hn:n=s*s) (hok:Hid (okAll xs s n)):
 Calls Tryz.prog 191 #[.agg #[.slice A n c,.int .i64 s]] w fun e w'=>e=.returned (.agg (ccells (cnt xs s n) s))/\Below w.heap.size w w':=by
 have hs2:2<=s:=by simp at hs;omega
 have hs4:s<=4:=by simp at hs;omega
 have hn16:n<=16:=by simp at hs;rcases hs with rfl|rfl|rfl<;>omega
 have Hn:=Lib.hid hn;clear hn;have Hi:=Lib.hid (fun C=>cinfo C s);have Hone:=Lib.hid (fun C=>cone C s);obtain ⟨hx0,hy0,hc00,hc01,hb0⟩:=cstart_facts A n c s w;have hz2:(((w.alloc (.cells #[.slice A n c,.int .i64 (s:Int)] 75)).alloc (.cells #[.int .i64 0,.int .i64 0,.int .i64 0,.int .i64 0,.int .i64 0,.int .i64 0,.int .i64 0,.int .i64 0,.int .i64 0,.int .i64 0,.int .i64 0,.int .i64 0,.int .i64 0,.int .i64 0,.int .i64 0,.int .i64 0,.int .i64 0,.int .i64 0,.int .i64 0,.int .i64 0,.int .i64 0,.int .i64 0,.int .i64 0,.int .i64 0,.int .i64 0,.int .i64 0,.int .i64 0,.int .i64 0,.int .i64 0,.int .i64 0,.int .i64 0,.int .i64 0,.int .i64 0,.int .i64 0,.int .i64 0,.int .i64 0,.int .i64 0,.int .i64 0,.int .i64 0,.int .i64 0,.int .i64 0] 191)).alloc (.cells #[.int .i64 0,.int .i64 0,.int .i64 0,.int .i64 0,.int .i64 0,.int .i64 0,.int .i64 0,.int .i64 0,.int .i64 0,.int .i64 0,.int .i64 0,.int .i64 0,.int .i64 0,.int .i64 0,.int .i64 0,.int .i64 0,.int .i64 0,.int .i64 0,.int .i64 0,.int .i64 0,.int .i64 0,.int .i64 0,.int .i64 0,.int .i64 0,.int .i64 0,.int .i64 0,.int .i64 0,.int .i64 0,.int .i64 0,.int .i64 0,.int .i64 0,.int .i64 0,.int .i64 0,.int .i64 0,.int .i64 0,.int .i64 0,.int .i64 0,.int .i64 0,.int .i64 0,.int .i64 0,.int .i64 0] 191)).heap[w.heap.size+1+1]? =some (.cells (ccells (fun _=>0) 0) 191 (0,0)):=hx0
 have Hz2:=Lib.hid hz2;clear hz2
 have key:∀ w0,(cstart A n c s w).setRow (w.heap.size+1+1) (ccells (fun _=>0) s)=w0->CBox w0 (w.heap.size+1+1) (fun _=>0) s/\CBox w0 (w.heap.size+1) (fun _=>0) 0/\w0.cell? ⟨w.heap.size,0,none⟩=some (.slice A n c)/\w0.cell? ⟨w.heap.size,1,none⟩=some (.int .i64 s)/\Below w.heap.size w w0:=by
  rintro w0 rfl;exact ⟨hx0.stored,hy0.row_other (by omega),(setRow_cell (by simp;omega)).trans hc00,(setRow_cell (by simp;omega)).trans hc01,setRow_below hb0 (by omega)⟩
 have Key:=Lib.hid key;clear key hx0 hy0 hc00 hc01 hb0
 go_enter Tryz.func191,Tryz.ntmps191
 go_wp2_with (refine wpList_store_row rfl 191 _ _ rfl (w.heap.size+1+1) (ccells (fun _=>0) s) rfl rfl 191 (ccells (fun _=>0) 0) Hz2.out (Hi.out _) rfl (Hone.out _) ?_;generalize Value.agg #[.int .i64 0,.int .i64 0,.int .i64 0,.int .i64 0,.int .i64 0,.int .i64 0,.int .i64 0,.int .i64 0,.int .i64 0,.int .i64 0,.int .i64 0,.int .i64 0,.int .i64 0,.int .i64 0,.int .i64 0,.int .i64 0,.int .i64 0,.int .i64 0,.int .i64 0,.int .i64 0,.int .i64 0,.int .i64 0,.int .i64 0,.int .i64 0,.int .i64 0,.int .i64 0,.int .i64 0,.int .i64 0,.int .i64 0,.int .i64 0,.int .i64 0,.int .i64 0,.int .i64 0,.int .i64 0,.int .i64 0,.int .i64 0,.int .i64 0,.int .i64 0,.int .i64 0,.int .i64 0,.int .i64 (s:Int)]=V;generalize hw0:World.setRow _ _ _=w0;obtain ⟨hx0,hy0,hc00,hc01,hb0⟩:=Key.out _ hw0;clear hw0)
 clear Hz2 Key
 go_loopw [14] (fun i wr=>∃ k:Nat,k<=n/\i=.int .i64 k/\Hid (CBox wr (w.heap.size+1+1) (cnt xs s k) s)/\Hid (CBox wr (w.heap.size+1) (fun _=>0) 0)/\wr.cell? ⟨w.heap.size,1,none⟩=some (.int .i64 s)/\Below w.heap.size w wr) (fun i _=>n-(intOf i).toNat)
 case atStart=>exact ⟨0,Nat.zero_le _,rfl,Lib.hid hx0,Lib.hid hy0,hc01,hb0⟩
 case round=>
  obtain ⟨k,hk,rfl,hx,hy,hc1,hB0⟩:=hrel
  by_cases hlt:k<n
  ·obtain ⟨b,off,rfl,hbB,hck⟩:=(h.below (hB0.mono hB)).at_ hlt;obtain ⟨x0,x4⟩:=hok.out k hlt;obtain ⟨v,hv⟩:=Int.eq_ofNat_of_zero_le x0;rw [hv] at hck;have hv4:v<=4:=(by omega);obtain ⟨hr8,hc8⟩:=rc_lt s hs k (by have:=Hn.out;omega);have Hr:Hid ((k:Int)/(s:Int)=((k/s:Nat):Int)):=Lib.hid (by simp);have Hc:Hid ((s:Int)+(k:Int)%(s:Int)=((s+k%s:Nat):Int)):=Lib.hid (by simp);obtain ⟨r,hr⟩:∃ r,r=k/s:=⟨_,rfl⟩;obtain ⟨q,hq⟩:∃ q,q=s+k%s:=⟨_,rfl⟩;have hstep:=Lib.hid (show cnt xs s (k+1)=bump (bump (cnt xs s k) (r*5+v)) (q*5+v) by simp only [cnt,hv,hr,hq,Int.toNat_natCast])
   rw [<- hr] at Hr hr8;rw [<- hq] at Hc hc8;have hl1:=cnt_le xs s k (r*5+v)
   have hl2:bump (cnt xs s k) (r*5+v) (q*5+v)<=2*k+1:=by
    have:=bump_le (cnt xs s k) (r*5+v) (q*5+v);have:=cnt_le xs s k (q*5+v);omega
   clear hr hq
   go_wp2_with (go_at_call 160;refine (linesThrough_rc s k r q _ (by omega) (by omega) (by omega) Hr.out Hc.out).mono ?_;rintro e w1 ⟨rfl,hb1⟩)
   have hx1:=Lib.hid (CBox.below hx.out hx.out.lt hb1);have hy1:=Lib.hid (CBox.below hy.out hy.out.lt hb1);have hB1:=step hB0 hb1;have hk1:=hx1.out.cell (l:=r*5+v) (by omega);have hf1:=hx1.out.frozen (r*5+v);have hr8':(r:Int)<8:=(by omega);have hq8':(q:Int)<8:=(by omega);have hv5':(v:Int)<5:=(by omega);have hc11:w1.cell? ⟨w.heap.size,1,none⟩=some (.int .i64 s):=(hb1.cell (p:=⟨w.heap.size,1,none⟩) (by have:=hx.out.lt;show w.heap.size<_;omega)).trans hc1
   go_region
   go_wp2
   obtain ⟨w2,hw2⟩:∃ w2,w2=(w1.setCell ⟨w.heap.size+1+1,r*5+v,none⟩ (.int .i64 ((cnt xs s k (r*5+v):Int)+1))).drew:=⟨_,rfl⟩;rw [<- hw2];have hx2:CBox w2 (w.heap.size+1+1) (bump (cnt xs s k) (r*5+v)) s:=(by rw [hw2];exact hx1.out.set (by omega));have hy2:CBox w2 (w.heap.size+1) (fun _=>0) 0:=(by rw [hw2];exact hy1.out.other (by omega));have hB2:Below w.heap.size w w2:=(by rw [hw2];exact below_drewN (hB1.setCell (by simp;omega) _) 1);have hsz2:w.heap.size<w2.heap.size:=(by have:=hx2.lt;omega);have hc2:w2.cell? ⟨w.heap.size,1,none⟩=some (.int .i64 s):=(by rw [hw2];exact (cell_other (by omega)).trans hc11)
   clear hw2 hk1 hf1;have hk2:=hx2.cell (l:=q*5+v) (by omega);have hf2:=hx2.frozen (q*5+v);have hx3:=Lib.hid (hx2.set (l:=q*5+v) (by omega));have hy3:=Lib.hid (hy2.other (k:=q*5+v) (v:=(.int .i64 ((bump (cnt xs s k) (r*5+v) (q*5+v):Int)+1))) (show w.heap.size+1≠w.heap.size+1+1 by omega));have hB3:=below_drewN (Below.setCell (p:=(⟨w.heap.size+1+1,q*5+v,none⟩:Addr)) hB2 (by simp;omega) (.int .i64 ((bump (cnt xs s k) (r*5+v) (q*5+v):Int)+1))) 1;have hc3:(w2.setCell ⟨w.heap.size+1+1,q*5+v,none⟩ (.int .i64 ((bump (cnt xs s k) (r*5+v) (q*5+v):Int)+1))).cell? ⟨w.heap.size,1,none⟩=some (.int .i64 s):=(cell_other (by omega)).trans hc2
   go_region
   go_wp2
   go_roundw
   case rel=>exact ⟨k+1,by omega,by go_num,by rw [hstep.out];exact hx3,hy3,hc3,hB3⟩
   case measure=>simp [intOf];omega
  ·obtain rfl:k=n:=by omega
   have hxf:=Lib.hid (CBox.stored (C':=cnt xs s k) (s':=s) hy.out);have hBe:=setRow_below (g:=w.heap.size+1) (cs:=ccells (cnt xs s k) s) hB0 (by omega)
   go_wp2_with (first|(refine wpList_load_row rfl 191 _ rfl (w.heap.size+1+1) rfl 191 (ccells (cnt xs s k) s) (0,0) _ hx.out Tryz.underlying191 rfl (Hi.out _) ?_)|(refine wpList_store_row rfl 191 _ _ rfl (w.heap.size+1) (ccells (cnt xs s k) s) rfl rfl 191 (ccells (fun _=>0) 0) hy.out (Hi.out _) rfl (Hone.out _) ?_))
   refine bodyPost_ret (v:=.agg (ccells (cnt xs s k) s)) (results_cell_row (by rfl) _ _ (w.heap.size+1) 191 _ (0,0) _ rfl hxf.out Tryz.underlying191 rfl (Hi.out _)) rfl ⟨rfl,hBe⟩
end Go.Proofs.YtkeoflnmbcdmfaaGreatDoor
