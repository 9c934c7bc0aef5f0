import Derived.Test.YtkeoflnmbcdmfaaGreatDoorHBNx
set_option maxRecDepth 8000
namespace Go.Proofs.YtkeoflnmbcdmfaaGreatDoor
open Go.ChangeShapes Go.WideShapes Go.ChangeAt Go.RowKit
theorem hC_mono (m:List Int) (S u:Int) (v:Nat) {k k':Nat} (h:k<=k'):hC m S u v k<=hC m S u v k':=by
 induction h with
 |refl=>exact Nat.le_refl _
 |step _ ih=>simp only [hC];split<;>omega
def qV (m:List Int) (S:Int) (N:Nat) (u:Int):Nat->List (Nat×Nat)
 |0=>[]
 |r+1=>if hC m S u (r+1) N=1 then qV m S N u r++[(hL m S u (r+1) N,r+1)] else qV m S N u r
def qU (m:List Int) (S:Int) (N:Nat):Nat->List (Nat×Nat)
 |0=>[]
 |u+1=>qU m S N u++qV m S N u N
def keepQ (o:List Int) (p:Nat×Nat):List Int:=o.set p.1 (bits .and .i64 (nth o p.1) (2^p.2))
theorem qV_fold (m:List Int) (S:Int) (N:Nat) (u:Int) (o:List Int) (r:Nat):(qV m S N u r).foldl keepQ o=hVs m S N u o r:=by
 induction r with
 |zero=>rfl
 |succ r ih=>
  simp only [qV,hVs]
  split
  ·rw [List.foldl_append,ih];rfl
  ·exact ih
theorem qU_fold (m:List Int) (S:Int) (N u:Nat):(qU m S N u).foldl keepQ m=hU m S N u:=by
 induction u with
 |zero=>rfl
 |succ u ih=>simp only [qU,hU];rw [List.foldl_append,ih,qV_fold]
theorem qV_len (m:List Int) (S:Int) (N:Nat) (u:Int) (r:Nat):(qV m S N u r).length<=r:=by
 induction r with
 |zero=>exact Nat.le_refl _
 |succ r ih=>
  simp only [qV]
  split
  ·simp;omega
  ·omega
theorem qU_len (m:List Int) (S:Int) (N u:Nat):(qU m S N u).length<=u*N:=by
 induction u with
 |zero=>simp [qU]
 |succ u ih=>simp only [qU,List.length_append];have:=qV_len m S N u N;rw [Nat.succ_mul];omega
theorem qV_in {m:List Int} {S u:Int} {N n:Nat} (hat:∀ j,j<N->(lineAt S u j).toNat<n) (h0:0<n) (r:Nat):∀ p∈qV m S N u r,p.1<n/\1<=p.2/\p.2<=r:=by
 induction r with
 |zero=>intro p hp;simp [qV] at hp
 |succ r ih=>
  intro p hp;simp only [qV] at hp
  split at hp
  ·rcases List.mem_append.1 hp with h|h
   ·have:=ih p h;omega
   ·rw [List.mem_singleton] at h;subst h;exact ⟨hL_lt hat h0,by simp,by simp⟩
  ·have:=ih p hp;omega
theorem qU_in {m:List Int} {S:Int} {N n U:Nat} (hat:∀ u:Nat,u<U->∀ j,j<N->(lineAt S u j).toNat<n) (h0:0<n) (u:Nat) (hu:u<=U):∀ p∈qU m S N u,p.1<n/\1<=p.2/\p.2<=N:=by
 induction u with
 |zero=>intro p hp;simp [qU] at hp
 |succ u ih=>
  intro p hp;simp only [qU] at hp
  rcases List.mem_append.1 hp with h|h
  ·exact ih (by omega) p h
  ·exact qV_in (hat u (by omega)) h0 N p h
def fl (q:List (Nat×Nat)):List Value:=q.flatMap (fun p=>[.int .i64 (p.1:Int),.int .i64 (p.2:Int)])
theorem fl_len (q:List (Nat×Nat)):(fl q).length=q.length*2:=by
 induction q with
 |nil=>rfl
 |cons a q ih=>
  have:fl (a::q)=[.int .i64 (a.1:Int),.int .i64 (a.2:Int)]++fl q:=rfl;rw [this,List.length_append,ih,List.length_cons];simp;omega
theorem fl_app (q q':List (Nat×Nat)):fl (q++q')=fl q++fl q':=by simp [fl]
theorem fl_get {q:List (Nat×Nat)} {k:Nat} (h:k<q.length):(fl q)[k*2]? =some (.int .i64 (q[k].1:Int))/\(fl q)[k*2+1]? =some (.int .i64 (q[k].2:Int)):=by
 induction q generalizing k with
 |nil=>simp at h
 |cons a q ih=>
  have e:fl (a::q)=.int .i64 (a.1:Int)::.int .i64 (a.2:Int)::fl q:=rfl;rw [e]
  cases k with
  |zero=>simp
  |succ k=>
   have h':k<q.length:=(by simpa using h);rw [show (k+1)*2=k*2+1+1 by omega]
   simpa using ih h'
def OwF (w:World) (lo:Nat) (A:Option Addr) (n c:Nat) (q:List (Nat×Nat)):Prop:=w.ownsRow lo 197 2 (.slice A n c) n (fl q)
theorem OwF.below {w w':World} {lo n c:Nat} {A:Option Addr} {q:List (Nat×Nat)} (h:OwF w lo A n c q) (hb:Below w.heap.size w w'):OwF w' lo A n c q:=
 World.ownsRow.kept h (row:=none) ⟨hb.os,hb.tape,hb.output,hb.size,fun k hk _=>hb.block k hk⟩ (by
  cases e:(Value.slice A n c).ownBlock
  ·exact .inl rfl
  ·exact .inr (by simp))
theorem found_info:(Tryz.prog.info? 197).map (fun i=>(i.zero,i.size,i.bytes))=some (some (.agg #[.int .i64 0,.int .i64 0]),2,16):=by kernel_rfl
theorem push_found {w:World} {ops:Array Oper} {rest:List Oper} {o:Oper} {a:Act} {Q:Exit->Act->World->Prop} (hgd:o.guard=none) (s x:Operand)
 (ho:o.op=.call { callee:=.builtin .append,args:= #[s,x],argTypes:= #[194,194] })
 (lo:Nat) (A:Option Addr) (n c:Nat) (q:List (Nat×Nat)) (p v:Nat) (hs:a.eval s=.slice A n c) (hx:a.eval x=.slice (some ⟨w.heap.size,0,none⟩) 1 1) (hown:OwF w lo A n c q) (hn:n<=1099511627776) (hlo:lo<=w.heap.size)
 (h:∀ A' c' w',OwF w' lo A' (n+1) c' (q++[(p,v)])->(w.alloc (.cells #[.int .i64 (p:Int),.int .i64 (v:Int)] 197)).grownBy w' (Value.slice A n c).ownBlock->wpList Tryz.prog ops Q rest (a.put o.dst (.slice A' (n+1) c')) w'):
 wpList Tryz.prog ops Q (o::rest) a (w.alloc (.cells #[.int .i64 (p:Int),.int .i64 (v:Int)] 197)):=by
 obtain ⟨i0,hi,hz0,hz1,hz2⟩:=info_parts found_info;refine wpList_append_own (P:=Tryz.prog) _ hgd s x 194 ho lo 197 i0 (.agg #[.int .i64 0,.int .i64 0]) 2 16 Tryz.underlying194 hi hz0 hz1 hz2 rfl (by decide) _ n (fl q) hs (World.ownsRow.alloc hown _) ⟨w.heap.size,0,none⟩ 1 1 [.int .i64 (p:Int),.int .i64 (v:Int)] hx rfl ?_ ?_ (by simp only [maxLen];omega) (by omega) (by simp;omega) ?_
 ·intro j u hj
  match j,hj with
  |0,hj=>
   simp at hj
   subst hj
   simp [Addr.add]
  |1,hj=>
   simp at hj
   subst hj
   simp [Addr.add]
 ·intro u hu
  simp at hu
  rcases hu with rfl|rfl<;>rfl
 ·intro v' w' h2 h3 _;obtain ⟨g,cap,hv,_,_⟩:=World.ownsRow.form h2 (by omega);subst hv;exact h _ _ _ (by unfold OwF;rw [fl_app];exact h2) h3
set_option maxHeartbeats 1000000 in
theorem onlyPlace_any (A:Option Addr) (c n B:Nat) (m:List Int) (Ac:Option Addr) (cc N Bc:Nat) (S u:Int) (v:Nat) (w:World) (h:Rd w B A n m) (hc:Rd w Bc Ac N (lineTo S u N)) (hBm:B<=w.heap.size) (hBc:Bc<=w.heap.size) (hN:N<=4) (hat:Hid (∀ j,j<N->∃ q:Nat,lineAt S u j=(q:Int)/\q<n)) (hrng:Hid (∀ k,k<n->0<=nth m k/\nth m k<=30)) (hv:v<=4):
 Calls Tryz.prog 201 #[.slice A n c,.slice Ac N cc,.int .i64 v] w fun e w'=>(∃ p:Nat,e=.returned (.tuple #[.int .i64 p,.bool (hC m S u v N==1)])/\(hC m S u v N=1->p=hL m S u v N))/\Below w.heap.size w w':=by
 go_enter Tryz.func201,Tryz.ntmps201
 go_wp2
 go_loopw [8,9,14] (fun pl fo i wr=>∃ k p:Nat,k<=N/\i=.int .i64 k/\hC m S u v k<=1/\pl=.int .i64 p/\fo=.bool (hC m S u v k==1)/\Hid (hC m S u v k=1->p=hL m S u v k)/\Below w.heap.size w wr) (fun _ _ i _=>N-(intOf i).toNat)
 case atStart=>exact ⟨0,0,Nat.zero_le _,rfl,Nat.zero_le _,rfl,rfl,Lib.hid (fun h=>by simp [hC] at h),Below.refl _ _⟩
 case round=>
  obtain ⟨k,p,hk,rfl,hle,rfl,rfl,hp,hb⟩:=hrel
  by_cases hlt:k<N
  ·obtain ⟨q,hq,hqn⟩:=hat.out k hlt;obtain ⟨b,off,rfl,hbB,hck⟩:=(hc.below (hb.mono hBc)).at_ hlt;rw [show nth (lineTo S u N) k=(q:Int) by rw [<- hq];simp [lineTo,nth,List.getD_eq_getElem?_getD,hlt]] at hck;obtain ⟨b',off',rfl,hbB',hcm⟩:=(h.below (hb.mono hBm)).at_ hqn;obtain ⟨x0,x1⟩:=hrng.out q hqn;obtain ⟨M,hM⟩:=Int.eq_ofNat_of_zero_le x0;rw [hM] at hcm x1;have hsh:=and_pow0 M v (by omega) hv;have hbit:hB m S u v k=M.testBit v:=(by simp only [hB,hq,Int.toNat_natCast];rw [hM];simp);have hvs:v<64:=(by omega);cases hh:M.testBit v
   ·rw [hh] at hsh hbit;have H1:=Lib.hid (show hC m S u v (k+1)=hC m S u v k by simp [hC,hbit]);have H2:=Lib.hid (show hL m S u v (k+1)=hL m S u v k by simp [hL,hbit]);clear hh hbit hM hq x0
    go_wp2
    go_quiet (fail)
    go_wp2
    go_roundw
    case rel=>exact ⟨k+1,p,by omega,by go_num,by rw [H1.out];exact hle,rfl,by rw [H1.out],Lib.hid (by rw [H1.out,H2.out];exact hp.out),below_drewN hb _⟩
    case measure=>simp [intOf];omega
   ·rw [hh] at hsh hbit;have H1:=Lib.hid (show hC m S u v (k+1)=hC m S u v k+1 by simp [hC,hbit]);have H2:=Lib.hid (show hL m S u v (k+1)=q by simp [hL,hbit,hq]);clear hh hbit hM hq x0
    by_cases h1:hC m S u v k=1
    ·have Hf:=Lib.hid (show hC m S u v N≠1 by have:=hC_mono m S u v (show k+1<=N by omega);rw [H1.out] at this;omega);have f1:(hC m S u v k==1)=true:=(by simp [h1]);rw [f1];clear h1 f1
     go_wp2
     go_quiet (fail)
     go_wp2
     go_ret2
     exact ⟨⟨0,by rw [show (hC m S u v N==1)=false by simp [Hf.out]];rfl,fun h=>absurd h Hf.out⟩,below_drewN hb _⟩
    ·have h0:=Lib.hid (show hC m S u v k=0 by omega);have f1:(hC m S u v k==1)=false:=(by simp [h1]);rw [f1];clear h1 f1
     go_wp2
     go_quiet (fail)
     go_wp2
     go_roundw
     case rel=>exact ⟨k+1,q,by omega,by go_num,by rw [H1.out,h0.out];exact Nat.le_refl _,rfl,by rw [H1.out,h0.out];rfl,Lib.hid (fun _=>H2.out.symm),below_drewN hb _⟩
     case measure=>simp [intOf];omega
  ·obtain rfl:k=N:=by omega
   obtain ⟨bb,hbb⟩:∃ bb,(hC m S u v k==1)=bb:=⟨_,rfl⟩;rw [hbb]
   go_wp2
   go_ret2
   exact ⟨⟨p,by rw [hbb];rfl,hp.out⟩,hb⟩
theorem qV_step {m:List Int} {S u:Int} {N v:Nat} (h:1<=v):qV m S N u v=if hC m S u v N=1 then qV m S N u (v-1)++[(hL m S u v N,v)] else qV m S N u (v-1):=by
 obtain ⟨r,rfl⟩:∃ r,v=r+1:=⟨v-1,by omega⟩;rfl
theorem line_in {s u:Nat} (hs:s∈[2,3,4]) (hu:u<2*s):∀ j,j<s->∃ q:Nat,lineAt s u j=(q:Int)/\q<s*s:=by
 intro j hj
 simp at hs
 by_cases hx:(u:Int)<(s:Int)
 ·rw [lineAt_row hx];refine ⟨u*s+j,by simp,?_⟩
  rcases hs with rfl|rfl|rfl<;>omega
 ·rw [lineAt_col hx];refine ⟨j*s+u-s,?_,?_⟩
  ·rcases hs with rfl|rfl|rfl<;>omega
  ·rcases hs with rfl|rfl|rfl<;>omega
set_option maxHeartbeats 2000000 in
theorem hiddenIn_any (A:Option Addr) (c n B:Nat) (m:List Int) (s:Nat) (w:World) (h:Rd w B A n m) (hBm:B<=w.heap.size) (hs:s∈[2,3,4]) (hn:n=s*s) (hrng:Hid (∀ k,k<n->0<=nth m k/\nth m k<=30)):
 Calls Tryz.prog 195 #[.slice A n c,.int .i64 s] w fun e w'=>∃ A' c',e=.returned (.slice A' (qU m s s (2*s)).length c')/\OwF w' w.heap.size A' (qU m s s (2*s)).length c' (qU m s s (2*s))/\Below w.heap.size w w':=by
 have hs2:2<=s:=by simp at hs;omega
 have hs4:s<=4:=by simp at hs;omega
 have Hs:=Lib.hid hs;have Hn:=Lib.hid hn;obtain ⟨T,hT⟩:∃ T,T=2*s:=⟨_,rfl⟩;rw [<- hT];have HT:=Lib.hid hT
 have hT8:T<=8:=by omega
 clear hs hn hT
 go_enter Tryz.func195,Tryz.ntmps195
 go_wp2
 go_loopw [5,13] (fun qv i wr=>∃ (u k:Nat) (A':Option Addr) (c':Nat),u<=T/\i=.int .i64 u/\qv=.slice A' k c'/\Hid ((qU m s s u).length=k)/\OwF wr w.heap.size A' k c' (qU m s s u)/\Below w.heap.size w wr) (fun _ i _=>T-(intOf i).toNat)
 case atStart=>exact ⟨0,0,none,0,Nat.zero_le _,rfl,rfl,Lib.hid rfl,World.ownsRow_nil _ _ _ _,Below.refl _ _⟩
 case round=>
  obtain ⟨u,k,A',c',hu,rfl,rfl,hk,ho,hb⟩:=hrel
  by_cases hlt:u<T
  ·have hltI:(u:Int)<2*(s:Int):=by have:=HT.out;omega
   have HLc:Hid (Calls Tryz.prog 196 #[.int .i64 s,.int .i64 u] wr fun e w''=>∃ A3 c3,e=.returned (.slice A3 s c3)/\Ow w'' wr.heap.size A3 s c3 (lineTo s u s)/\Below wr.heap.size wr w''):=Lib.hid ((implLineCells s u wr ⟨by omega,by omega⟩).mono (by
       rintro e w'' ⟨A3,c3,rfl,ho3,hb3⟩
       have e1:lineL s u=lineTo s u s:=by
        have:lineOk s u=true:=(by have:=HT.out;simp [lineOk,inr];omega)
        simp [lineL,this]
       rw [e1,lineTo_length] at ho3;rw [e1,lineTo_length]
       exact ⟨A3,c3,rfl,ho3,hb3⟩))
   have hat:=Lib.hid (show ∀ j,j<s->∃ q:Nat,lineAt s u j=(q:Int)/\q<n by rw [Hn.out];exact line_in Hs.out (by have:=HT.out;omega));have hsw:=hb.size
   go_wp2_with (go_at_call 196;refine HLc.out.mono ?_;rintro e w3 ⟨A3,c3,rfl,ho3,hb3⟩)
   have hoq:=ho.below hb3;have hbq:=hb.trans (hb3.mono hsw);have ho3':=ho3.mono hsw
   go_loopw [5,8] (fun qv i wr=>∃ (v k:Nat) (A':Option Addr) (c':Nat),1<=v/\v<=s+1/\i=.int .i64 v/\qv=.slice A' k c'/\Hid ((qU m s s u++qV m s s u (v-1)).length=k)/\OwF wr w.heap.size A' k c' (qU m s s u++qV m s s u (v-1))/\Ow wr w.heap.size A3 s c3 (lineTo s u s)/\Below w.heap.size w wr) (fun _ i _=>s+1-(intOf i).toNat)
   case atStart=>exact ⟨1,k,A',c',by omega,by omega,rfl,rfl,Lib.hid (by simp only [Nat.sub_self,qV,List.append_nil];exact hk.out),by simp only [Nat.sub_self,qV,List.append_nil];exact hoq,ho3',hbq⟩
   case round=>
    clear ho hoq hbq ho3 ho3' hb3 hb HLc hk;obtain ⟨v,k,A',c',hv1,hv2,rfl,rfl,hk,ho,ho3,hb⟩:=hrel;have hsw:=hb.size
    by_cases hvs:v<=s
    ·have hvI:(v:Int)<=(s:Int):=(by omega);have HOP:=Lib.hid (onlyPlace_any A c n B m A3 c3 s wr.heap.size s u v wr (h.below (hb.mono hBm)) ho3.rd (Nat.le_trans hBm hb.size) (Nat.le_refl _) hs4 hat hrng (by omega))
     have hk8:k<=1099511627776:=by
      have q1:=hk.out;have q2:=qU_len m s s u;have q3:=qV_len m s s u (v-1);have q4:u*s<=8*4:=Nat.mul_le_mul (by omega) hs4;rw [List.length_append] at q1;omega
     by_cases h1:hC m s u v s=1
     ·have f1:(hC m s u v s==1)=true:=(by simp [h1]);have HQ:=Lib.hid (show qV m s s u v=qV m s s u (v-1)++[(hL m s u v s,v)] by rw [qV_step hv1,if_pos h1]);have H1:=Lib.hid h1;clear h1
      go_wp2_with (first
       |(go_at_call 201;refine HOP.out.mono ?_;rintro e w3 ⟨⟨p,rfl,hp⟩,hb3⟩;rw [f1];have ho5:=ho.below hb3;have hp':=Lib.hid (hp H1.out);clear hp;have hs3:=Nat.le_trans hsw hb3.size)
       |(at_builtin;refine push_found rfl (.tmp 32) (.tmp 36) rfl w.heap.size A' k c' _ p v rfl rfl ho5 hk8 hs3 ?_;intro A5 c5 w5 ho6 hg6))
      have ho36:=ow_own (World.ownsRow.alloc (ho3.below hb3) _) (World.ownsRow.alloc ho5 _) (by decide) hg6;have hb6:Below w.heap.size w w5:=((hb.trans (hb3.mono hsw)).alloc hs3 _).grown hg6 (by simp;omega) (fun g hg=>(World.ownsRow.lt ho5 g hg).1)
      go_roundw
      case rel=>exact ⟨v+1,k+1,A5,c5,by omega,by omega,by go_num,rfl,Lib.hid (by rw [Nat.add_sub_cancel,HQ.out,<-List.append_assoc,List.length_append,hk.out];rfl),by rw [Nat.add_sub_cancel,HQ.out,<-List.append_assoc,<-hp'.out];exact ho6,ho36,hb6⟩
      case measure=>simp [intOf];omega
     ·have f1:(hC m s u v s==1)=false:=(by simp [h1]);have HQ:=Lib.hid (show qV m s s u v=qV m s s u (v-1) by rw [qV_step hv1,if_neg h1]);clear h1
      go_wp2_with (go_at_call 201;refine HOP.out.mono ?_;rintro e w3 ⟨⟨p,rfl,_⟩,hb3⟩;rw [f1])
      go_roundw
      case rel=>exact ⟨v+1,k,A',c',by omega,by omega,by go_num,rfl,Lib.hid (by rw [Nat.add_sub_cancel,HQ.out];exact hk.out),by rw [Nat.add_sub_cancel,HQ.out];exact ho.below hb3,ho3.below hb3,step hb hb3⟩
      case measure=>simp [intOf];omega
    ·obtain rfl:v=s+1:=by omega
     have hvI:((s+1:Nat):Int)=(s:Int)+1:=(by simp);rw [Nat.add_sub_cancel] at hk ho
     go_wp2
     go_roundw
     case rel=>exact ⟨u+1,k,A',c',by omega,by go_num,rfl,hk,ho,hb⟩
     case measure=>simp [intOf];omega
  ·have hltI:¬ (u:Int)<2*(s:Int):=by have:=HT.out;omega
   obtain rfl:u=T:=by omega
   go_wp2
   go_ret
   rw [hk.out];exact ⟨_,_,rfl,ho,hb⟩
theorem OwF.set {w:World} {lo lo' g n c n' c' j:Nat} {A:Option Addr} {q:List (Nat×Nat)} {xs:List Int} (h:OwF w lo A n c q) (ho:Ow w lo' (some ⟨g,0,none⟩) n' c' xs) (v:Value):OwF (w.setCell ⟨g,j,none⟩ v) lo A n c q:=by
 refine World.ownsRow.kept h (row:=some g) grown_set ?_
 rcases h.2 with ⟨e1,_⟩|⟨g1,cap1,cur1,e1,_,hr1,_⟩
 ·rw [e1];exact .inl rfl
 ·refine .inr (fun e2=>?_);rw [e1] at e2
  have e3:g1=g:=by simpa [Value.ownBlock] using e2
  subst e3
  rcases ho.2 with ⟨e4,_⟩|⟨g2,cap2,cur2,e4,_,hr2,_⟩
  ·cases e4
  ·injection e4 with e4 _ _
   injection e4 with e4
   injection e4 with e4 _ _
   subst e4;rw [hr1] at hr2
   injection hr2 with hr2
   injection hr2 with _ h2 _
   exact absurd h2 (by decide)
theorem OwF.cells {w:World} {lo n c:Nat} {A:Option Addr} {q:List (Nat×Nat)} (h:OwF w lo A n c q) {k:Nat} (hk:k<n):∃ g,A=some ⟨g,0,none⟩/\g<w.heap.size/\w.cell? ⟨g,k*2,none⟩=some (.int .i64 ((q.getD k (0,0)).1:Int))/\w.cell? ⟨g,k*2+1,none⟩=some (.int .i64 ((q.getD k (0,0)).2:Int)):=by
 obtain ⟨g,cap,hv,_,hg⟩:=World.ownsRow.form h (by omega)
 injection hv with hA _ _
 subst hA;have hl:=h.1;rw [fl_len] at hl
 have hkq:k<q.length:=by omega
 have e:=fl_get hkq
 have hd:q.getD k (0,0)=q[k]:=by simp [List.getD_eq_getElem?_getD,hkq]
 refine ⟨g,rfl,hg,?_,?_⟩
 ·rw [hd,World.ownsRow.cellAt h (k*2) (by omega)];exact e.1
 ·rw [hd,World.ownsRow.cellAt h (k*2+1) (by omega)];exact e.2
set_option maxHeartbeats 2000000 in
theorem implNarrowHidden (A:Option Addr) (c n B:Nat) (m:List Int) (size:Int) (w:World) (h:Rd w B A n m) (hm64:B64 m) (hBm:B<=w.heap.size) (hm:n<=1099511627776) (hsb: -9223372036854775808<=size/\size<=9223372036854775807):
 Calls Tryz.prog 187 #[.slice A n c,.int .i64 size] w (RetSl w (nhL m size)):=by
 have hlen:=Lib.hid h.1;have HV:=Lib.hid (implMasksValid A c n B m size w h hm64 hBm hm hsb);cases hv:mvd m size
 ·have HL:=Lib.hid (show nhL m size=[] by simp [nhL,hv])
  go_enter Tryz.func187,Tryz.ntmps187
  go_wp2_with (go_at_call 83;refine HV.out.mono ?_;rintro e w1 ⟨rfl,hb1⟩;rw [hv])
  go_ret
  rw [HL.out];exact ⟨_,_,rfl,Ow.nil_ _ _,hb1⟩
 ·obtain ⟨⟨s2,s4⟩,hsq,hn16,hrng⟩:=mvd_at hv;rw [hlen.out] at hsq hn16 hrng;obtain ⟨s,rfl⟩:=Int.eq_ofNat_of_zero_le (by omega:0<=size)
  have hs:s∈[2,3,4]:=by simp;omega
  have hn:n=s*s:=by
   have:(n:Int)=((s*s:Nat):Int):=(by simpa using hsq);omega
  have hn0:0<n:=by
   simp at hs
   rcases hs with rfl|rfl|rfl<;>omega
  have Hrng:=Lib.hid (fun k (hk:k<n)=>(⟨(hrng k hk).1,(hrng k hk).2.1⟩:0<=nth m k/\nth m k<=30));have HCl:=Lib.hid (fun w' (hb:Below w.heap.size w w')=>clone_any A n c B m w' (h.below (hb.mono hBm)) (Nat.le_trans hBm hb.size) hn0 hm);have HHi:=Lib.hid (fun w' (hb:Below w.heap.size w w')=>hiddenIn_any A c n B m s w' (h.below (hb.mono hBm)) (Nat.le_trans hBm hb.size) hs hn Hrng)
  have Hin:=Lib.hid (qU_in (m:=m) (S:=s) (N:=s) (n:=n) (U:=2*s) (fun u hu j hj=>by
   obtain ⟨q,hq,hqn⟩:=line_in hs hu j hj
   rw [hq,hn];simpa using hqn) hn0 (2*s) (Nat.le_refl _))
  have HQ8:=Lib.hid (show (qU m s s (2*s)).length<=32 by have:=qU_len m s s (2*s);have:2*s*s<=8*4:=Nat.mul_le_mul (by omega) (by omega);omega);have HF:=Lib.hid (show nhL m s=(qU m s s (2*s)).foldl keepQ m by rw [qU_fold];simp [nhL,hv])
  have hs4':s<=4:=by omega
  obtain ⟨q,hq⟩:∃ q,q=qU m s s (2*s):=⟨_,rfl⟩;rw [<- hq] at HHi Hin HQ8 HF;obtain ⟨K,hK⟩:∃ K,K=q.length:=⟨_,rfl⟩;rw [<- hK] at HHi HQ8;have HK:=Lib.hid hK;have hK32:=HQ8.out;clear hrng hsq hq hK hn hs
  go_enter Tryz.func187,Tryz.ntmps187
  go_wp2_with (first
   |(go_at_call 83;refine HV.out.mono ?_;rintro e w1 ⟨rfl,hb1⟩;rw [hv])
   |(go_at_call 70;refine (HCl.out _ hb1).mono ?_;rintro e w2 ⟨Ac,cc,rfl,ho2,hb2⟩;have hb12:=step hb1 hb2)
   |(go_at_call 195;refine (HHi.out _ hb12).mono ?_;rintro e w3 ⟨Aq,cq,rfl,hoq,hb3⟩))
  have hb13:=step hb12 hb3;have ho3:=(ho2.mono hb1.size).below hb3;have hoq':OwF w3 w.heap.size Aq K cq q:=World.ownsRow.mono hoq hb12.size;obtain ⟨g,rfl,hgl,hgw⟩:=ho3.form hn0
  go_loopw [18] (fun i wr=>∃ k:Nat,k<=K/\i=.int .i64 k/\Ow wr w.heap.size (some ⟨g,0,none⟩) n cc ((q.take k).foldl keepQ m)/\OwF wr w.heap.size Aq K cq q/\Below w.heap.size w wr) (fun i _=>K-(intOf i).toNat)
  case atStart=>exact ⟨0,Nat.zero_le _,rfl,ho3,hoq',hb13⟩
  case round=>
   clear ho3 hoq hoq' hb13 hb12 hb1 hb2 hb3 ho2;obtain ⟨k,hk,rfl,ho,hof,hb⟩:=hrel
   by_cases hlt:k<K
   ·obtain ⟨gq,rfl,hgq,hcx,hcy⟩:=hof.cells hlt;have hkq:k<q.length:=(by rw [<- HK.out];exact hlt)
    have hmem:q.getD k (0,0)∈q:=by
     rw [List.getD_eq_getElem?_getD,List.getElem?_eq_getElem hkq];exact List.getElem_mem _
    obtain ⟨hx,hy1,hy4⟩:=Hin.out _ hmem
    have HT:=Lib.hid (show (q.take (k+1)).foldl keepQ m=((q.take k).foldl keepQ m).set (q.getD k (0,0)).1 (bits .and .i64 (nth ((q.take k).foldl keepQ m) (q.getD k (0,0)).1) (2^(q.getD k (0,0)).2)) by
     rw [List.take_add_one,List.getElem?_eq_getElem hkq]
     simp only [Option.toList_some,List.foldl_append,List.foldl_cons,List.foldl_nil,keepQ,List.getD_eq_getElem?_getD,List.getElem?_eq_getElem hkq,Option.getD_some])
    obtain ⟨x,hxe⟩:∃ x,x=(q.getD k (0,0)).1:=⟨_,rfl⟩;obtain ⟨y,hye⟩:∃ y,y=(q.getD k (0,0)).2:=⟨_,rfl⟩;rw [<- hxe] at hcx hx HT;rw [<- hye] at hcy hy1 hy4 HT;obtain ⟨o,hoe⟩:∃ o,o=(q.take k).foldl keepQ m:=⟨_,rfl⟩;rw [<- hoe] at ho HT;clear hxe hye hmem hoe;obtain ⟨hcell,hfr⟩:=ho.cell hx
    have hw2:wrap64 ((2:Int)^y)=2^y:=by
     obtain ⟨r,rfl⟩:∃ r,y=r+1:=⟨y-1,by omega⟩;exact pow_wrap5 (by omega)
    have hy64:y<64:=(by omega);have hgr:=ho.own_hi g rfl;obtain ⟨W,hW⟩:∃ W,wr.alloc (.cells #[.int .i64 (x:Int),.int .i64 (y:Int)] 197)=W:=⟨_,rfl⟩;have hoW:Ow W w.heap.size (some ⟨g,0,none⟩) n cc o:=(by rw [<- hW];exact World.ownsRow.alloc ho _);have hofW:OwF W w.heap.size (some ⟨gq,0,none⟩) K cq q:=(by rw [<- hW];exact World.ownsRow.alloc hof _);have hbW:Below w.heap.size w W:=(by rw [<- hW];exact hb.alloc hb.size _);have hz0:W.cell? ⟨wr.heap.size,0,none⟩=some (.int .i64 (x:Int)):=(by rw [<- hW];exact cell_of_row _ _ 0 _ _ (0,0) (heap_alloc_new wr _));have hz1:W.cell? ⟨wr.heap.size,1,none⟩=some (.int .i64 (y:Int)):=(by rw [<- hW];exact cell_of_row _ _ 1 _ _ (0,0) (heap_alloc_new wr _));obtain ⟨hcW,hfW⟩:=hoW.cell hx;have hput:=Lib.hid (hoW.putN x (bits .and .i64 (nth o x) (2^y)));have hofp:=Lib.hid (hofW.set (j:=x) hoW (.int .i64 (bits .and .i64 (nth o x) (2^y))));have hbp:=Lib.hid (Below.setCell (p:=(⟨g,x,none⟩:Addr)) hbW hgl (.int .i64 (bits .and .i64 (nth o x) (2^y))));have HW:=Lib.hid hW;clear hW hofW hoW hbW
    go_wp2
    rw [HW.out]
    go_region
    go_wp2
    go_roundw
    case rel=>exact ⟨k+1,by omega,by go_num,by rw [HT.out];exact hput.out,hofp.out,below_drewN hbp.out 1⟩
    case measure=>simp [intOf];omega
   ·obtain rfl:k=K:=by omega
    rw [show q.take k=q by rw [HK.out];exact List.take_length] at ho
    go_wp2
    go_ret
    rw [HF.out];exact retSl_mk ho hb
theorem an_an:∀ x,x<32->∀ y,y<32->∀ z,z<32->bits .andNot .i64 (x:Nat) (z:Nat)=0->bits .andNot .i64 (bits .andNot .i64 (x:Nat) (y:Nat)) (z:Nat)=0:=by decide +kernel
theorem an_bit:∀ x,x<32->∀ y,y<32->∀ v,v<5->(bits .andNot .i64 (x:Nat) (y:Nat)).toNat.testBit v=(x.testBit v&& !y.testBit v):=by decide +kernel
def twoB (M a b v:Nat):Bool:= !((maskVals (M:Int)).length==2&&M.testBit a&&M.testBit b&&a != b&&v != a&&v != b)|| !M.testBit v
theorem two_key:∀ M,M<32->∀ a,a<5->∀ b,b<5->∀ v,v<5->twoB M a b v=true:=by decide +kernel
theorem sol_ne {g:List Int} {s:Nat} (hs:s∈[2,3,4]) (hl:g.length=s*s) (h:sqSolved g s=true) {u:Nat} (hu:u<2*s) {i j:Nat} (hij:i≠j) (hi:i<s) (hj:j<s):lineV g s (u:Nat) i≠lineV g s (u:Nat) j:=by
 obtain ⟨h1,h2,h3⟩:=(solved_iff hl).1 h
 have hd:dupTo (lineV g s (u:Nat)) s=false:=by
  cases e:dupTo (lineV g s (u:Nat)) s
  ·rfl
  ·have:=clash_at (xs:=g) (size:=(s:Int)) (l:=u) (by omega) (by rw [Int.toNat_natCast];exact e);rw [h2] at this;cases this
 have hp:∀ k,k<s->0<lineV g s (u:Nat) k:=fun k hk=>by
  have hp:=line_at hs hu k hk;have hz:=h3 _ hp;obtain ⟨q0,_⟩:=gv_nth h1 (k:=(lineAt s u k).toNat) (by rw [hl];exact hp);unfold lineV;omega
 intro e
 have:dupTo (lineV g s (u:Nat)) s=true:=by
  rw [dupTo_iff]
  rcases Nat.lt_or_gt_of_ne hij with hlt|hlt
  ·exact ⟨i,j,hlt,hj,e,hp j hj⟩
  ·exact ⟨j,i,hlt,hi,e.symm,hp i hi⟩
 rw [hd] at this;cases this
theorem len_of {m:List Int} {s:Nat} (hs:s∈[2,3,4]) (hm:mvd m s=true):m.length=s*s:=by
 have:=(mvd_at hm).2.1
 simp at hs
 rcases hs with rfl|rfl|rfl<;>omega
theorem pIn_in {m g o:List Int} {s u a b:Nat} (hs:s∈[2,3,4]) (hm:mvd m s=true) (hsb:Sub o m) (hu:u<2*s) (hno:∀ k,k<s->k≠a->k≠b->inMask (m.set (lcN s u k) (nth m (lcN s u a))) g (lcN s u k)=false) (hg4:∀ k,k<s*s->(nth g k).toNat<5)
 (ho:∀ k,k<s*s->inMask o g k=true) (K:Nat) (hK:K<=s):∀ k,k<s*s->inMask (pIn m s u a b o K) g k=true:=by
 induction K with
 |zero=>exact ho
 |succ K ih=>
  have ih:=ih (by omega);simp only [pIn]
  split
  ·next hne=>
   have hp:lcN s u K<s*s:=line_at hs hu K (by omega);have hln:=len_of hs hm;have hsub:=pIn_sub (u:=(u:Int)) (S:=(s:Int)) (a:=a) (b:=b) hm hsb K;have hlo:(pIn m s u a b o K).length=s*s:=(by rw [hsub.1,hln]);intro k hk;unfold inMask;rw [nth_set (by rw [hlo];exact hp)]
   split
   ·next e=>
    subst e;obtain ⟨⟨x0,x1,_⟩,_⟩:=hsub.at_ hm (k:=lcN s u K) (by rw [hln];exact hp);obtain ⟨y0,y1,_⟩:=mvd_nth hm (lcN s u a);have h1:=ih _ hp;have h2:=hno K (by omega) hne.1 hne.2;unfold inMask at h1 h2;rw [nth_set (by rw [hln];exact hp),if_pos rfl] at h2;obtain ⟨x,hx⟩:=Int.eq_ofNat_of_zero_le x0;obtain ⟨y,hy⟩:=Int.eq_ofNat_of_zero_le y0;rw [hx] at h1 ⊢;rw [hy] at h2 ⊢;rw [Int.toNat_natCast] at h1 h2;rw [an_bit x (by omega) y (by omega) _ (hg4 _ hp),h1,h2];rfl
   ·exact ih k hk
  ·exact ih
theorem pB_in {m g o:List Int} {s u a:Nat} (hs:s∈[2,3,4]) (hm:mvd m s=true) (hsb:Sub o m) (hu:u<2*s) (hl:g.length=s*s) (hg:sqSolved g s=true) (hin:∀ k,k<s*s->inMask m g k=true) (ha:a<s) (ho:∀ k,k<s*s->inMask o g k=true) (b:Nat) (hb:b<=a):∀ k,k<s*s->inMask (pB m s s u a o b) g k=true:=by
 have hg4:∀ k,k<s*s->(nth g k).toNat<5:=fun k hk=>by
  obtain ⟨h1,_,_⟩:=(solved_iff hl).1 hg;obtain ⟨q0,q1⟩:=gv_nth h1 (k:=k) (by omega);have:=gv_size h1;omega
 induction b with
 |zero=>exact ho
 |succ b ih=>
  have ih:=ih (by omega);simp only [pB]
  split
  ·next hc=>
   refine pIn_in hs hm (pB_sub hm hsb b) hu (fun k hk hka hkb=>?_) hg4 ih s (Nat.le_refl _);have hln:=len_of hs hm;have hpa:lcN s u a<s*s:=line_at hs hu a ha;have hpb:lcN s u b<s*s:=line_at hs hu b (by omega);have hpk:lcN s u k<s*s:=line_at hs hu k hk;have ma:=hin _ hpa;have mb:=hin _ hpb;have n1:nth g (lcN s u a)≠nth g (lcN s u b):=sol_ne hs hl hg hu (by omega) ha (by omega);have n2:nth g (lcN s u k)≠nth g (lcN s u a):=sol_ne hs hl hg hu hka hk ha;have n3:nth g (lcN s u k)≠nth g (lcN s u b):=sol_ne hs hl hg hu hkb hk (by omega);obtain ⟨h1,_,_⟩:=(solved_iff hl).1 hg;have p1:=(gv_nth h1 (k:=lcN s u a) (by omega)).1;have p2:=(gv_nth h1 (k:=lcN s u b) (by omega)).1;have p3:=(gv_nth h1 (k:=lcN s u k) (by omega)).1;obtain ⟨y0,y1,_⟩:=mvd_nth hm (lcN s u a);unfold inMask at ma mb ⊢;rw [<- hc.1] at mb;rw [nth_set (by rw [hln];exact hpk),if_pos rfl];obtain ⟨M,hM⟩:=Int.eq_ofNat_of_zero_le y0;have h2:=hc.2;rw [hM] at ma mb h2 ⊢;rw [Int.toNat_natCast] at ma mb ⊢;have:=two_key M (by omega) _ (hg4 _ hpa) _ (hg4 _ hpb) _ (hg4 _ hpk);unfold twoB at this;rw [ma,mb,h2,bne_iff_ne.2 (show (nth g (lcN s u a)).toNat≠(nth g (lcN s u b)).toNat by omega),bne_iff_ne.2 (show (nth g (lcN s u k)).toNat≠(nth g (lcN s u a)).toNat by omega),bne_iff_ne.2 (show (nth g (lcN s u k)).toNat≠(nth g (lcN s u b)).toNat by omega)] at this
   simpa using this
  ·exact ih
theorem pA_in {m g o:List Int} {s u:Nat} (hs:s∈[2,3,4]) (hm:mvd m s=true) (hsb:Sub o m) (hu:u<2*s) (hl:g.length=s*s) (hg:sqSolved g s=true) (hin:∀ k,k<s*s->inMask m g k=true) (ho:∀ k,k<s*s->inMask o g k=true) (a:Nat) (ha:a<=s):∀ k,k<s*s->inMask (pA m s s u o a) g k=true:=by
 induction a with
 |zero=>exact ho
 |succ a ih=>
  simp only [pA];exact pB_in hs hm (pA_sub hm hsb a) hu hl hg hin (by omega) (ih (by omega)) a (Nat.le_refl _)
theorem pU_in {m g:List Int} {s:Nat} (hs:s∈[2,3,4]) (hm:mvd m s=true) (hl:g.length=s*s) (hg:sqSolved g s=true) (hin:∀ k,k<s*s->inMask m g k=true) (u:Nat) (hu:u<=2*s):∀ k,k<s*s->inMask (pU m s s u) g k=true:=by
 induction u with
 |zero=>exact hin
 |succ u ih=>
  simp only [pU];exact pA_in hs hm (pU_sub hm u) (by omega) hl hg hin (ih (by omega)) s (Nat.le_refl _)
theorem np_keeps {m g:List Int} {s:Int} (hm:mvd m s=true) (hg:sqSolved g s=true) (h:mhB m s g=true):mhB (npL m s) s g=true:=by
 obtain ⟨⟨s2,s4⟩,_,_,_⟩:=mvd_at hm;obtain ⟨t,rfl⟩:∃ t:Nat,s=t:=⟨s.toNat,by omega⟩
 have hs:t∈[2,3,4]:=by simp;omega
 simp only [mhB,Bool.and_eq_true,List.all_eq_true,List.mem_range] at h ⊢;obtain ⟨⟨_,hgv⟩,hin⟩:=h;have hlg:=gv_len hgv
 have hln:g.length=t*t:=by
  simp at hs
  rcases hs with rfl|rfl|rfl<;>omega
 refine ⟨⟨(np_sub hm).mvd_ hm,hgv⟩,?_⟩;rw [hln] at hin ⊢;have:=pU_in hs hm hln hg hin (2*t) (Nat.le_refl _);unfold npL;rw [if_pos hm,Int.toNat_natCast];exact this
theorem Wi.anput {o m:List Int} {s y:Int} (h:Wi o m) (hs:Sub o m) (hm:mvd m s=true) (hy:0<=y/\y<=30) (p:Nat):Wi (o.set p (bits .andNot .i64 (nth o p) y)) m:=fun k hk=>by
 by_cases hp:p<o.length
 ·rw [nth_set hp]
  split
  ·next e=>
   subst e;obtain ⟨⟨x0,x1,_⟩,_⟩:=hs.at_ hm hk;obtain ⟨z0,z1,_⟩:=mvd_nth hm p;have hz:=h p hk;obtain ⟨x,hx⟩:=Int.eq_ofNat_of_zero_le x0;obtain ⟨z,hzz⟩:=Int.eq_ofNat_of_zero_le z0;obtain ⟨yy,hyy⟩:=Int.eq_ofNat_of_zero_le hy.1;rw [hx,hzz] at hz ⊢;rw [hyy];exact an_an x (by omega) yy (by omega) z (by omega) hz
  ·exact h k hk
 ·rw [List.set_eq_of_length_le (by omega)];exact h k hk
theorem pIn_wi {m o:List Int} {s S u:Int} {a b:Nat} (hm:mvd m s=true) (hs:Sub o m) (h:Wi o m) (k:Nat):Wi (pIn m S u a b o k) m:=by
 induction k with
 |zero=>exact h
 |succ k ih=>
  simp only [pIn]
  split
  ·exact ih.anput (pIn_sub hm hs k) hm ⟨(mvd_nth hm _).1,(mvd_nth hm _).2.1⟩ _
  ·exact ih
theorem pB_wi {m o:List Int} {s S u:Int} {N a:Nat} (hm:mvd m s=true) (hs:Sub o m) (h:Wi o m) (b:Nat):Wi (pB m S N u a o b) m:=by
 induction b with
 |zero=>exact h
 |succ b ih=>
  simp only [pB]
  split
  ·exact pIn_wi hm (pB_sub hm hs b) ih N
  ·exact ih
theorem pA_wi {m o:List Int} {s S u:Int} {N:Nat} (hm:mvd m s=true) (hs:Sub o m) (h:Wi o m) (a:Nat):Wi (pA m S N u o a) m:=by
 induction a with
 |zero=>exact h
 |succ a ih=>simp only [pA];exact pB_wi hm (pA_sub hm hs a) ih a
theorem pU_wi {m:List Int} {s S:Int} {N:Nat} (hm:mvd m s=true) (u:Nat):Wi (pU m S N u) m:=by
 induction u with
 |zero=>exact Wi.refl hm
 |succ u ih=>simp only [pU];exact pA_wi hm (pU_sub hm u) ih N
theorem np_wi {m:List Int} {s:Int} (hm:mvd m s=true):Wi (npL m s) m:=by
 unfold npL;rw [if_pos hm];exact pU_wi hm _
def cN (v:Nat->Nat) (x:Nat):Nat->Nat
 |0=>0
 |k+1=>if v k=x then cN v x k+1 else cN v x k
def two (x:Nat):Bool:=Lib.onesCount x==2
def tkC (C:Nat->Nat) (x P:Nat):Bool:=two P&&(decide (2<C P)||(C P==2&&P != x))
def tkF (C:Nat->Nat) (x:Nat):Nat->Nat
 |0=>0
 |P+1=>if tkC C x P=true then tkF C x P|||P else tkF C x P
theorem cN_le (v:Nat->Nat) (x k:Nat):cN v x k<=k:=by
 induction k with
 |zero=>exact Nat.le_refl _
 |succ k ih=>simp only [cN];split<;>omega
theorem tkF_bit {C:Nat->Nat} {x j:Nat}:∀ K,(tkF C x K).testBit j=true↔∃ P,P<K/\tkC C x P=true/\P.testBit j=true:=by
 intro K
 induction K with
 |zero=>simp [tkF]
 |succ K ih=>
  simp only [tkF]
  constructor
  ·intro h
   split at h
   ·next hc=>
    rw [Nat.testBit_or,Bool.or_eq_true] at h
    rcases h with h|h
    ·obtain ⟨P,h1,h2⟩:=ih.1 h;exact ⟨P,by omega,h2⟩
    ·exact ⟨K,by omega,hc,h⟩
   ·obtain ⟨P,h1,h2⟩:=ih.1 h;exact ⟨P,by omega,h2⟩
  ·rintro ⟨P,h1,h2,h3⟩
   by_cases e:P=K
   ·subst e;rw [if_pos h2,Nat.testBit_or,h3,Bool.or_true]
   ·have:=ih.2 ⟨P,by omega,h2,h3⟩
    split
    ·rw [Nat.testBit_or,this,Bool.true_or]
    ·exact this
theorem tkF_lt (C:Nat->Nat) (x K:Nat) (hK:K<=32):tkF C x K<32:=by
 induction K with
 |zero=>simp [tkF]
 |succ K ih=>
  simp only [tkF]
  split
  ·exact Nat.or_lt_two_pow (n:=5) (ih (by omega)) (by omega)
  ·exact ih (by omega)
def tB (v:Nat->Nat) (k a:Nat):Nat->Nat
 |0=>0
 |b+1=>if (v a=v b/\two (v a)=true)/\(k≠a/\k≠b) then tB v k a b|||v a else tB v k a b
def tA (v:Nat->Nat) (k:Nat):Nat->Nat
 |0=>0
 |a+1=>tA v k a|||tB v k a a
theorem tB_bit {v:Nat->Nat} {k a j:Nat}:∀ b,(tB v k a b).testBit j=true↔∃ i,i<b/\v a=v i/\two (v a)=true/\k≠a/\k≠i/\(v a).testBit j=true:=by
 intro b
 induction b with
 |zero=>simp [tB]
 |succ b ih=>
  simp only [tB]
  constructor
  ·intro h
   split at h
   ·next hc=>
    rw [Nat.testBit_or,Bool.or_eq_true] at h
    rcases h with h|h
    ·obtain ⟨i,h1,h2⟩:=ih.1 h;exact ⟨i,by omega,h2⟩
    ·exact ⟨b,by omega,hc.1.1,hc.1.2,hc.2.1,hc.2.2,h⟩
   ·obtain ⟨i,h1,h2⟩:=ih.1 h;exact ⟨i,by omega,h2⟩
  ·rintro ⟨i,h1,h2,h3,h4,h5,h6⟩
   by_cases e:i=b
   ·subst e;rw [if_pos ⟨⟨h2,h3⟩,h4,h5⟩,Nat.testBit_or,h6,Bool.or_true]
   ·have:=ih.2 ⟨i,by omega,h2,h3,h4,h5,h6⟩
    split
    ·rw [Nat.testBit_or,this,Bool.true_or]
    ·exact this
theorem tA_bit {v:Nat->Nat} {k j:Nat}:∀ n,(tA v k n).testBit j=true↔∃ a b,a<n/\b<a/\v a=v b/\two (v a)=true/\k≠a/\k≠b/\(v a).testBit j=true:=by
 intro n
 induction n with
 |zero=>simp [tA]
 |succ n ih=>
  simp only [tA];rw [Nat.testBit_or,Bool.or_eq_true,ih,tB_bit]
  constructor
  ·rintro (⟨a,b,h1,h2⟩|⟨i,h1,h2⟩)
   ·exact ⟨a,b,by omega,h2⟩
   ·exact ⟨n,i,by omega,h1,h2⟩
  ·rintro ⟨a,b,h1,h2,h3⟩
   by_cases e:a=n
   ·subst e;exact .inr ⟨b,h2,h3⟩
   ·exact .inl ⟨a,b,by omega,h2,h3⟩
theorem tB_lt {v:Nat->Nat} {k a:Nat} (ha:v a<32) (b:Nat):tB v k a b<32:=by
 induction b with
 |zero=>simp [tB]
 |succ b ih=>
  simp only [tB]
  split
  ·exact Nat.or_lt_two_pow (n:=5) ih ha
  ·exact ih
theorem tA_lt {v:Nat->Nat} {k:Nat} (n:Nat) (hv:∀ i,i<n->v i<32):tA v k n<32:=by
 induction n with
 |zero=>simp [tA]
 |succ n ih=>exact Nat.or_lt_two_pow (n:=5) (ih fun i hi=>hv i (by omega)) (tB_lt (hv n (by omega)) n)
def cX (v:Nat->Nat) (P k:Nat):Nat->Nat
 |0=>0
 |a+1=>if v a=P/\k≠a then cX v P k a+1 else cX v P k a
theorem cX_pos {v:Nat->Nat} {P k:Nat}:∀ n,1<=cX v P k n↔∃ b,b<n/\v b=P/\k≠b:=by
 intro n
 induction n with
 |zero=>simp [cX]
 |succ n ih=>
  simp only [cX]
  constructor
  ·intro h
   split at h
   ·next hc=>exact ⟨n,by omega,hc⟩
   ·obtain ⟨b,h1,h2⟩:=ih.1 h;exact ⟨b,by omega,h2⟩
  ·rintro ⟨b,h1,h2⟩
   by_cases e:b=n
   ·subst e;rw [if_pos h2];omega
   ·have:=ih.2 ⟨b,by omega,h2⟩
    split<;>omega
theorem cX_two {v:Nat->Nat} {P k:Nat}:∀ n,2<=cX v P k n↔∃ a b,a<n/\b<a/\v a=P/\v b=P/\k≠a/\k≠b:=by
 intro n
 induction n with
 |zero=>simp [cX]
 |succ n ih=>
  simp only [cX]
  constructor
  ·intro h
   split at h
   ·next hc=>
    obtain ⟨b,h1,h2,h3⟩:=(cX_pos (v:=v) (P:=P) (k:=k) n).1 (by omega);exact ⟨n,b,by omega,h1,hc.1,h2,hc.2,h3⟩
   ·obtain ⟨a,b,h1,h2⟩:=ih.1 h;exact ⟨a,b,by omega,h2⟩
  ·rintro ⟨a,b,h1,h2,h3,h4,h5,h6⟩
   by_cases e:a=n
   ·subst e;have:=(cX_pos a).2 ⟨b,h2,h4,h6⟩;rw [if_pos ⟨h3,h5⟩];omega
   ·have:=ih.2 ⟨a,b,by omega,h2,h3,h4,h5,h6⟩
    split<;>omega
theorem cN_X {v:Nat->Nat} {P k:Nat}:∀ n,cN v P n=cX v P k n+if k<n/\v k=P then 1 else 0:=by
 intro n
 induction n with
 |zero=>simp [cN,cX]
 |succ n ih=>
  by_cases e:k=n
  ·subst e;have e1:(if k<k/\v k=P then 1 else 0)=0:=if_neg (fun h=>absurd h.1 (by omega));rw [e1] at ih;have e2:cX v P k (k+1)=cX v P k k:=(by simp only [cX];rw [if_neg (fun h=>h.2 rfl)]);rw [e2];simp only [cN]
   by_cases h:v k=P
   ·rw [if_pos h,if_pos ⟨by omega,h⟩];omega
   ·rw [if_neg h,if_neg (fun h'=>h h'.2)];omega
  ·have e3:(if k<n+1/\v k=P then 1 else 0)=if k<n/\v k=P then 1 else 0:=by
    by_cases h2:k<n/\v k=P
    ·rw [if_pos h2,if_pos ⟨by omega,h2.2⟩]
    ·rw [if_neg h2,if_neg (fun h'=>h2 ⟨by omega,h'.2⟩)]
   rw [e3];simp only [cN,cX]
   by_cases h:v n=P
   ·rw [if_pos h,if_pos ⟨h,e⟩];omega
   ·rw [if_neg h,if_neg (fun h'=>h h'.1)];exact ih
theorem tk_is {v:Nat->Nat} {k N:Nat} (hk:k<N) (hv:∀ i,i<N->v i<32):tkF (fun x=>cN v x N) (v k) 32=tA v k N:=by
 apply Nat.eq_of_testBit_eq
 intro j;rw [Bool.eq_iff_iff,tkF_bit,tA_bit]
 have key:∀ P,tkC (fun x=>cN v x N) (v k) P=true↔two P=true/\2<=cX v P k N:=fun P=>by
  have h:=cN_X (v:=v) (P:=P) (k:=k) N;simp only [tkC,Bool.and_eq_true,Bool.or_eq_true,decide_eq_true_eq,beq_iff_eq,bne_iff_ne]
  by_cases e:v k=P
  ·rw [if_pos ⟨hk,e⟩] at h
   constructor
   ·rintro ⟨h1,h2|h2⟩
    ·exact ⟨h1,by omega⟩
    ·exact absurd e.symm h2.2
   ·rintro ⟨h1,h2⟩;exact ⟨h1,.inl (by omega)⟩
  ·rw [if_neg (fun h'=>e h'.2)] at h
   constructor
   ·rintro ⟨h1,h2|h2⟩
    ·exact ⟨h1,by omega⟩
    ·exact ⟨h1,by omega⟩
   ·rintro ⟨h1,h2⟩;refine ⟨h1,?_⟩
    by_cases h3:2<cN v P N
    ·exact .inl h3
    ·exact .inr ⟨by omega,fun e'=>e e'.symm⟩
 constructor
 ·rintro ⟨P,h1,h2,h3⟩;obtain ⟨h4,h5⟩:=(key P).1 h2;obtain ⟨a,b,ha,hb,ea,eb,na,nb⟩:=(cX_two N).1 h5;exact ⟨a,b,ha,hb,by rw [ea,eb],by rw [ea];exact h4,na,nb,by rw [ea];exact h3⟩
 ·rintro ⟨a,b,ha,hb,e,h2,na,nb,h3⟩;exact ⟨v a,hv a ha,(key _).2 ⟨h2,(cX_two N).2 ⟨a,b,ha,hb,rfl,e.symm,na,nb⟩⟩,h3⟩
def lv (m:List Int) (S u:Int) (k:Nat):Nat:=(nth m (lcN S u k)).toNat
theorem lv_lt {m:List Int} {S u:Int} {s:Int} (hm:mvd m s=true) (k:Nat):lv m S u k<32:=by
 have:=mvd_nth hm (lcN S u k);unfold lv;omega
theorem lv_int {m:List Int} {S u:Int} {s:Int} (hm:mvd m s=true) (k:Nat):nth m (lcN S u k)=(lv m S u k:Nat):=by
 have:=mvd_nth hm (lcN S u k);unfold lv;omega
theorem lv_even {m:List Int} {S u:Int} {s:Int} (hm:mvd m s=true) (k:Nat):lv m S u k%2=0:=by
 obtain ⟨h0,h1,h2⟩:=mvd_nth hm (lcN S u k);rw [Int.tmod_eq_emod_of_nonneg h0] at h2;unfold lv;omega
theorem mv_two {M:Nat} (h:M<32) (he:M%2=0):(maskVals (M:Int)).length=2↔two M=true:=by
 have e:maskVals (M:Int)=bitsTo M 4:=by
  simp only [maskVals];rw [if_pos (by simp only [mvOk,inr,Bool.and_eq_true,decide_eq_true_eq,beq_iff_eq];exact ⟨⟨by omega,by omega⟩,by rw [Int.tmod_eq_emod_of_nonneg (by omega)];omega⟩),Int.toNat_natCast]
 rw [e,<-ones_bits M h he,two,beq_iff_eq]
theorem cond_is {m:List Int} {S u s:Int} (hm:mvd m s=true) (a b:Nat):(nth m (lcN S u a)=nth m (lcN S u b)/\(maskVals (nth m (lcN S u a))).length=2)↔(lv m S u a=lv m S u b/\two (lv m S u a)=true):=by
 rw [lv_int hm a,lv_int hm b,mv_two (lv_lt hm a) (lv_even hm a)]
 constructor
 ·rintro ⟨h1,h2⟩;exact ⟨by omega,h2⟩
 ·rintro ⟨h1,h2⟩;exact ⟨by omega,h2⟩
theorem an_or:∀ x,x<32->∀ y,y<32->∀ z,z<32->bits .andNot .i64 (bits .andNot .i64 (x:Nat) (y:Nat)) (z:Nat)=bits .andNot .i64 (x:Nat) ((y|||z:Nat):Int):=by decide +kernel
theorem an_nil:∀ x,x<32->bits .andNot .i64 (x:Nat) 0=(x:Nat):=by decide +kernel
theorem lc_inj {s u:Nat} (hs:s∈[2,3,4]) {i j:Nat} (hi:i<s) (hj:j<s) (h:lcN s u i=lcN s u j):i=j:=by
 simp only [lcN] at h
 simp at hs
 by_cases hx:(u:Int)<(s:Int)
 ·rw [lineAt_row hx,lineAt_row hx] at h
  rcases hs with rfl|rfl|rfl<;>omega
 ·rw [lineAt_col hx,lineAt_col hx] at h
  rcases hs with rfl|rfl|rfl<;>omega
theorem pIn_nth {m o:List Int} {s u a b:Nat} (hs:s∈[2,3,4]) (hu:u<2*s) (hl:o.length=s*s) {k:Nat} (hk:k<s) (K:Nat) (hK:K<=s):
 nth (pIn m s u a b o K) (lcN s u k)=if k<K/\(k≠a/\k≠b) then bits .andNot .i64 (nth o (lcN s u k)) (nth m (lcN s u a)) else nth o (lcN s u k):=by
 induction K with
 |zero=>simp [pIn]
 |succ K ih=>
  have ih:=ih (by omega);simp only [pIn];have hp:lcN s u K<s*s:=line_at hs hu K (by omega)
  by_cases e:k=K
  ·subst e;rw [if_neg (fun h=>absurd h.1 (by omega))] at ih
   by_cases hc:k≠a/\k≠b
   ·rw [if_pos hc,if_pos ⟨by omega,hc⟩,nth_set (by rw [pIn_len,hl];exact hp),if_pos rfl,ih]
   ·rw [if_neg hc,if_neg (fun h=>hc h.2),ih]
  ·have hne:lcN s u K≠lcN s u k:=fun h=>e (lc_inj hs hk (by omega) h.symm)
   have h2:nth (if K≠a/\K≠b then (pIn m s u a b o K).set (lcN s u K) (bits .andNot .i64 (nth (pIn m s u a b o K) (lcN s u K)) (nth m (lcN s u a))) else pIn m s u a b o K) (lcN s u k)=nth (pIn m s u a b o K) (lcN s u k):=by
    split
    ·rw [nth_set (by rw [pIn_len,hl];exact hp),if_neg hne]
    ·rfl
   rw [h2,ih]
   by_cases hc:k<K/\(k≠a/\k≠b)
   ·rw [if_pos hc,if_pos ⟨by omega,hc.2⟩]
   ·rw [if_neg hc,if_neg (fun h=>hc ⟨by omega,h.2⟩)]
theorem pIn_off {m o:List Int} {s u a b:Nat} (hs:s∈[2,3,4]) (hu:u<2*s) (hl:o.length=s*s) {p:Nat} (hp:∀ k,k<s->lcN s u k≠p) (K:Nat) (hK:K<=s):nth (pIn m s u a b o K) p=nth o p:=by
 induction K with
 |zero=>rfl
 |succ K ih=>
  simp only [pIn]
  split
  ·rw [nth_set (by rw [pIn_len,hl];exact line_at hs hu K (by omega)),if_neg (hp K (by omega)),ih (by omega)]
  ·exact ih (by omega)
theorem pB_nth {m o:List Int} {s u a:Nat} (hs:s∈[2,3,4]) (hm:mvd m s=true) (hu:u<2*s) (hl:o.length=s*s) {k X:Nat} (hk:k<s) (hX:X<32) (ho:nth o (lcN s u k)=(X:Nat)) (b:Nat):
 nth (pB m s s u a o b) (lcN s u k)=bits .andNot .i64 (X:Nat) ((tB (lv m s u) k a b:Nat):Int):=by
 induction b with
 |zero=>simp only [pB,tB];rw [ho];exact (an_nil X hX).symm
 |succ b ih=>
  simp only [pB,tB]
  by_cases hc:lv m s u a=lv m s u b/\two (lv m s u a)=true
  ·rw [if_pos ((cond_is hm a b).2 hc),pIn_nth hs hu (by rw [pB_len,hl]) hk s (Nat.le_refl _),ih]
   by_cases hk2:k≠a/\k≠b
   ·rw [if_pos ⟨hk,hk2⟩,if_pos ⟨hc,hk2⟩,lv_int hm a];exact an_or X hX _ (tB_lt (lv_lt hm a) b) _ (lv_lt hm a)
   ·rw [if_neg (fun h=>hk2 h.2),if_neg (fun h=>hk2 h.2)]
  ·rw [if_neg (fun h=>hc ((cond_is hm a b).1 h)),if_neg (fun h=>hc h.1),ih]
theorem pB_off {m o:List Int} {s u a:Nat} (hs:s∈[2,3,4]) (hu:u<2*s) (hl:o.length=s*s) {p:Nat} (hp:∀ k,k<s->lcN s u k≠p) (b:Nat):nth (pB m s s u a o b) p=nth o p:=by
 induction b with
 |zero=>rfl
 |succ b ih=>
  simp only [pB]
  split
  ·rw [pIn_off hs hu (by rw [pB_len,hl]) hp s (Nat.le_refl _),ih]
  ·exact ih
theorem anN_lt:∀ x,x<32->∀ y,y<32->∃ z,z<32/\bits .andNot .i64 (x:Nat) (y:Nat)=(z:Nat):=fun x hx y hy=>by
 obtain ⟨q1,q2,_⟩:=an_key x hx y hy;exact ⟨(bits .andNot .i64 (x:Nat) (y:Nat)).toNat,by omega,by omega⟩
theorem pA_nth {m o:List Int} {s u:Nat} (hs:s∈[2,3,4]) (hm:mvd m s=true) (hu:u<2*s) (hl:o.length=s*s) {k X:Nat} (hk:k<s) (hX:X<32) (ho:nth o (lcN s u k)=(X:Nat)) (a:Nat):
 nth (pA m s s u o a) (lcN s u k)=bits .andNot .i64 (X:Nat) ((tA (lv m s u) k a:Nat):Int):=by
 induction a with
 |zero=>simp only [pA,tA];rw [ho];exact (an_nil X hX).symm
 |succ a ih=>
  simp only [pA,tA]
  have hA:tA (lv m s u) k a<32:=tA_lt a fun i _=>lv_lt hm i
  obtain ⟨z,hz,ez⟩:=anN_lt X hX _ hA;rw [pB_nth hs hm hu (by rw [pA_len,hl]) hk hz (by rw [ih,ez]) a,<-ez];exact an_or X hX _ hA _ (tB_lt (lv_lt hm a) a)
theorem pA_off {m o:List Int} {s u:Nat} (hs:s∈[2,3,4]) (hu:u<2*s) (hl:o.length=s*s) {p:Nat} (hp:∀ k,k<s->lcN s u k≠p) (a:Nat):nth (pA m s s u o a) p=nth o p:=by
 induction a with
 |zero=>rfl
 |succ a ih=>simp only [pA];rw [pB_off hs hu (by rw [pA_len,hl]) hp a,ih]
def gL (m:List Int) (S u:Int) (C:Nat->Nat) (o:List Int):Nat->List Int
 |0=>o
 |k+1=>(gL m S u C o k).set (lcN S u k) (bits .andNot .i64 (nth (gL m S u C o k) (lcN S u k)) ((tkF C (lv m S u k) 32:Nat):Int))
theorem gL_len (m:List Int) (S u:Int) (C:Nat->Nat) (o:List Int) (k:Nat):(gL m S u C o k).length=o.length:=by
 induction k with
 |zero=>rfl
 |succ k ih=>simp only [gL];rw [List.length_set,ih]
theorem gL_nth {m o:List Int} {s u:Nat} {C:Nat->Nat} (hs:s∈[2,3,4]) (hu:u<2*s) (hl:o.length=s*s) {k:Nat} (hk:k<s) (K:Nat) (hK:K<=s):
 nth (gL m s u C o K) (lcN s u k)=if k<K then bits .andNot .i64 (nth o (lcN s u k)) ((tkF C (lv m s u k) 32:Nat):Int) else nth o (lcN s u k):=by
 induction K with
 |zero=>simp [gL]
 |succ K ih=>
  have ih:=ih (by omega);simp only [gL];rw [nth_set (by rw [gL_len,hl];exact line_at hs hu K (by omega))]
  by_cases e:k=K
  ·subst e;rw [if_neg (by omega)] at ih;rw [if_pos rfl,if_pos (by omega),ih]
  ·rw [if_neg (fun h=>e (lc_inj hs hk (by omega) h.symm)),ih]
   by_cases h:k<K
   ·rw [if_pos h,if_pos (by omega)]
   ·rw [if_neg h,if_neg (by omega)]
theorem gL_off {m o:List Int} {s u:Nat} {C:Nat->Nat} (hs:s∈[2,3,4]) (hu:u<2*s) (hl:o.length=s*s) {p:Nat} (hp:∀ k,k<s->lcN s u k≠p) (K:Nat) (hK:K<=s):nth (gL m s u C o K) p=nth o p:=by
 induction K with
 |zero=>rfl
 |succ K ih=>simp only [gL];rw [nth_set (by rw [gL_len,hl];exact line_at hs hu K (by omega)),if_neg (hp K (by omega)),ih (by omega)]
theorem gL_is {m o:List Int} {s u:Nat} (hs:s∈[2,3,4]) (hm:mvd m s=true) (hu:u<2*s) (ho:Sub o m):gL m s u (fun x=>cN (lv m s u) x s) o s=pA m s s u o s:=by
 have hln:=len_of hs hm
 have hl:o.length=s*s:=by rw [ho.1,hln]
 apply ext_nth
 ·rw [gL_len,pA_len]
 ·intro p hp;rw [gL_len,hl] at hp
  by_cases h:∃ k,k<s/\lcN s u k=p
  ·obtain ⟨k,hk,rfl⟩:=h;obtain ⟨⟨x0,x1,_⟩,_⟩:=ho.at_ hm (k:=lcN s u k) (by rw [hln];exact hp);obtain ⟨X,hX⟩:=Int.eq_ofNat_of_zero_le x0;rw [gL_nth hs hu hl hk s (Nat.le_refl _),if_pos hk,pA_nth hs hm hu hl hk (by omega) hX s,hX,tk_is hk (fun i _=>lv_lt hm i)]
  ·have hp':∀ k,k<s->lcN s u k≠p:=fun k hk e=>h ⟨k,hk,e⟩
   rw [gL_off hs hu hl hp' s (Nat.le_refl _),pA_off hs hu hl hp' s]
def gU (m:List Int) (N:Nat):Nat->List Int
 |0=>m
 |u+1=>gL m N u (fun x=>cN (lv m N u) x N) (gU m N u) N
theorem gU_is {m:List Int} {s:Nat} (hs:s∈[2,3,4]) (hm:mvd m s=true):∀ u,u<=2*s->gU m s u=pU m s s u:=by
 intro u
 induction u with
 |zero=>intro _;rfl
 |succ u ih=>
  intro hu;simp only [gU,pU];rw [ih (by omega)];exact gL_is hs hm (by omega) (pU_sub hm u)
def cIn (S u i:Nat) (x:Int) (o:List Int):Nat->List Int
 |0=>o
 |k+1=>if lcN S u k≠i then (cIn S u i x o k).set (lcN S u k) (bits .andNot .i64 (nth (cIn S u i x o k) (lcN S u k)) x) else cIn S u i x o k
def clQ (S:Nat) (o:List Int) (p:Nat×Nat):List Int:=cIn S (S+p.1%S) p.1 (2^p.2) (cIn S (p.1/S) p.1 (2^p.2) o S) S
def sQ (m:List Int):Nat->List (Nat×Nat)
 |0=>[]
 |k+1=>if oneOf (maskVals (nth m k))=0 then sQ m k else sQ m k++[(k,(oneOf (maskVals (nth m k))).toNat)]
theorem cIn_len (S u i:Nat) (x:Int) (o:List Int) (k:Nat):(cIn S u i x o k).length=o.length:=by
 induction k with
 |zero=>rfl
 |succ k ih=>
  simp only [cIn]
  split
  ·rw [List.length_set,ih]
  ·exact ih
theorem clQ_len (S:Nat) (o:List Int) (p:Nat×Nat):(clQ S o p).length=o.length:=by unfold clQ;rw [cIn_len,cIn_len]
theorem sQ_len (m:List Int) (k:Nat):(sQ m k).length<=k:=by
 induction k with
 |zero=>exact Nat.le_refl _
 |succ k ih=>
  simp only [sQ]
  split
  ·omega
  ·simp;omega
def oneP (M:Nat):Bool:=if (bitsTo M 4).length=1 then (oneOf (bitsTo M 4)==1&&M==2)||(oneOf (bitsTo M 4)==2&&M==4)||(oneOf (bitsTo M 4)==3&&M==8)||(oneOf (bitsTo M 4)==4&&M==16) else oneOf (bitsTo M 4)==0
theorem oneP_all:∀ M,M<32->M%2=0->oneP M=true:=by decide +kernel
theorem mv_bits {M:Nat} (h:M<32) (he:M%2=0):maskVals (M:Int)=bitsTo M 4:=by
 simp only [maskVals];rw [if_pos (by simp only [mvOk,inr,Bool.and_eq_true,decide_eq_true_eq,beq_iff_eq];exact ⟨⟨by omega,by omega⟩,by rw [Int.tmod_eq_emod_of_nonneg (by omega)];omega⟩),Int.toNat_natCast]
theorem one_at {m:List Int} {s:Int} (hm:mvd m s=true) (k:Nat):((maskVals (nth m k)).length=1/\∃ v:Nat,1<=v/\v<=4/\oneOf (maskVals (nth m k))=v/\nth m k=2^v)\/((maskVals (nth m k)).length≠1/\oneOf (maskVals (nth m k))=0):=by
 obtain ⟨x0,x1,x2⟩:=mvd_nth hm k;obtain ⟨M,hM⟩:=Int.eq_ofNat_of_zero_le x0
 have he:M%2=0:=by rw [hM,Int.tmod_eq_emod_of_nonneg (by omega)] at x2;omega
 have h:=oneP_all M (by omega) he;rw [hM,mv_bits (by omega) he];unfold oneP at h
 split at h
 ·next hl=>
  refine .inl ⟨hl,?_⟩;simp only [Bool.or_eq_true,Bool.and_eq_true,beq_iff_eq] at h
  rcases h with ((⟨h1,h2⟩|⟨h1,h2⟩)|⟨h1,h2⟩)|⟨h1,h2⟩
  ·exact ⟨1,by omega,by omega,h1,by rw [h2];decide⟩
  ·exact ⟨2,by omega,by omega,h1,by rw [h2];decide⟩
  ·exact ⟨3,by omega,by omega,h1,by rw [h2];decide⟩
  ·exact ⟨4,by omega,by omega,h1,by rw [h2];decide⟩
 ·next hl=>exact .inr ⟨hl,beq_iff_eq.1 h⟩
theorem sQ_in {m:List Int} {s:Int} (hm:mvd m s=true) (k:Nat):∀ p∈sQ m k,p.1<k/\1<=p.2/\p.2<=4:=by
 induction k with
 |zero=>intro p hp;simp [sQ] at hp
 |succ k ih=>
  intro p hp;simp only [sQ] at hp
  split at hp
  ·have:=ih p hp;omega
  ·next hn=>
   rcases List.mem_append.1 hp with h|h
   ·have:=ih p h;omega
   ·rw [List.mem_singleton] at h;subst h
    rcases one_at hm k with ⟨_,v,h1,h2,h3,_⟩|⟨_,h0⟩
    ·rw [h3];simp;omega
    ·exact absurd h0 hn
def lineHas (S u p:Nat):Nat->Bool
 |0=>false
 |k+1=>lineHas S u p k||lcN S u k==p
def hasP (s:Nat):Bool:=(List.range (s*s)).all fun i=>(List.range (s*s)).all fun p=>lineHas s (i/s) p s==(p/s==i/s)&&lineHas s (s+i%s) p s==(p%s==i%s)
theorem hasP_all:hasP 2=true/\hasP 3=true/\hasP 4=true:=by decide +kernel
theorem has_at {s:Nat} (hs:s∈[2,3,4]) {i p:Nat} (hi:i<s*s) (hp:p<s*s):lineHas s (i/s) p s=(p/s==i/s)/\lineHas s (s+i%s) p s=(p%s==i%s):=by
 have h:hasP s=true:=by
  simp at hs
  rcases hs with rfl|rfl|rfl
  ·exact hasP_all.1
  ·exact hasP_all.2.1
  ·exact hasP_all.2.2
 unfold hasP at h;have:=List.all_eq_true.1 (List.all_eq_true.1 h i (List.mem_range.2 hi)) p (List.mem_range.2 hp);rw [Bool.and_eq_true,beq_iff_eq,beq_iff_eq] at this;exact this
theorem cIn_nth {o:List Int} {s u i:Nat} {x:Int} (hs:s∈[2,3,4]) (hu:u<2*s) (hl:o.length=s*s) (p:Nat) (K:Nat) (hK:K<=s):
 nth (cIn s u i x o K) p=if lineHas s u p K=true/\p≠i then bits .andNot .i64 (nth o p) x else nth o p:=by
 induction K with
 |zero=>simp [cIn,lineHas]
 |succ K ih=>
  have ih:=ih (by omega);simp only [cIn,lineHas,Bool.or_eq_true,beq_iff_eq];have hp:lcN s u K<s*s:=line_at hs hu K (by omega)
  by_cases e:lcN s u K=p
  ·have hno:lineHas s u p K=false:=by
    have hall:∀ j,j<=K->lineHas s u p j=false:=by
     intro j
     induction j with
     |zero=>intro _;rfl
     |succ j ihj=>
      intro hj;simp only [lineHas,Bool.or_eq_false_iff,beq_eq_false_iff_ne];refine ⟨ihj (by omega),fun e2=>?_⟩;have:=lc_inj hs (show j<s by omega) (show K<s by omega) (e2.trans e.symm);omega
    exact hall K (Nat.le_refl _)
   rw [if_neg (fun h=>by rw [hno] at h;cases h.1)] at ih
   by_cases hi:p=i
   ·rw [if_neg (by rw [e];exact fun h=>h hi),if_neg (fun h=>h.2 hi),ih]
   ·rw [if_pos (by rw [e];exact hi),if_pos ⟨.inr e,hi⟩,nth_set (by rw [cIn_len,hl];exact hp),if_pos e,e,ih]
  ·have h2:nth (if lcN s u K≠i then (cIn s u i x o K).set (lcN s u K) (bits .andNot .i64 (nth (cIn s u i x o K) (lcN s u K)) x) else cIn s u i x o K) p=nth (cIn s u i x o K) p:=by
    split
    ·rw [nth_set (by rw [cIn_len,hl];exact hp),if_neg e]
    ·rfl
   rw [h2,ih]
   by_cases hc:lineHas s u p K=true/\p≠i
   ·rw [if_pos hc,if_pos ⟨.inl hc.1,hc.2⟩]
   ·rw [if_neg hc,if_neg (fun h=>hc ⟨h.1.resolve_right e,h.2⟩)]
theorem nsIn_nth {m o:List Int} {s i:Nat} {p:Nat} (K:Nat) (hK:K<=o.length):nth (nsIn m s i o K) p=if p<K/\seesB s p i=true then bits .andNot .i64 (nth o p) (nth m i) else nth o p:=by
 induction K with
 |zero=>simp [nsIn]
 |succ K ih=>
  have ih:=ih (by omega);simp only [nsIn]
  by_cases e:K=p
  ·subst e;rw [if_neg (fun h=>absurd h.1 (by omega))] at ih
   by_cases hc:seesB s K i=true
   ·rw [if_pos hc,if_pos ⟨by omega,hc⟩,nth_set (by rw [nsIn_len];omega),if_pos rfl,ih]
   ·rw [if_neg hc,if_neg (fun h=>hc h.2),ih]
  ·have h2:nth (if seesB s K i=true then (nsIn m s i o K).set K (bits .andNot .i64 (nth (nsIn m s i o K) K) (nth m i)) else nsIn m s i o K) p=nth (nsIn m s i o K) p:=by
    split
    ·rw [nth_set (by rw [nsIn_len];omega),if_neg e]
    ·rfl
   rw [h2,ih]
   by_cases hc:p<K/\seesB s p i=true
   ·rw [if_pos hc,if_pos ⟨by omega,hc.2⟩]
   ·rw [if_neg hc,if_neg (fun h=>hc ⟨by omega,h.2⟩)]
theorem div_eq_of {s i p:Nat} (h1:p/s=i/s) (h2:p%s=i%s):p=i:=by
 have a:=Nat.div_add_mod p s;have b:=Nat.div_add_mod i s;rw [h1,h2] at a;omega
theorem clQ_is {m o:List Int} {s i v:Nat} (hs:s∈[2,3,4]) (hl:o.length=s*s) (hi:i<s*s) (hx:nth m i=2^v):clQ s o (i,v)=nsIn m s i o (s*s):=by
 have hs0:0<s:=by simp at hs;omega
 have hr:i/s<2*s:=by have:i/s<s:=Nat.div_lt_of_lt_mul hi;omega
 have hc:s+i%s<2*s:=by have:=Nat.mod_lt i hs0;omega
 apply ext_nth
 ·rw [clQ_len,nsIn_len]
 ·intro p hp;rw [clQ_len,hl] at hp;obtain ⟨e1,e2⟩:=has_at hs hi hp;rw [nsIn_nth _ (by rw [hl];exact Nat.le_refl _),hx];unfold clQ;simp only;rw [cIn_nth hs hc (by rw [cIn_len,hl]) p s (Nat.le_refl _),cIn_nth hs hr hl p s (Nat.le_refl _),e1,e2];simp only [seesB,Bool.and_eq_true,Bool.or_eq_true,beq_iff_eq,bne_iff_ne]
  by_cases hpi:p=i
  ·rw [if_neg (fun h=>h.2 hpi),if_neg (fun h=>h.2 hpi),if_neg (fun h=>h.2.1 hpi)]
  ·by_cases h1:p/s=i/s
   ·have h2:¬ p%s=i%s:=fun h2=>hpi (div_eq_of h1 h2)
    rw [if_neg (fun h=>h2 h.1),if_pos ⟨h1,hpi⟩,if_pos ⟨hp,hpi,.inl h1⟩]
   ·by_cases h2:p%s=i%s
    ·rw [if_pos ⟨h2,hpi⟩,if_neg (fun h=>h1 h.1),if_pos ⟨hp,hpi,.inr h2⟩]
    ·rw [if_neg (fun h=>h2 h.1),if_neg (fun h=>h1 h.1),if_neg (fun h=>h.2.2.elim h1 h2)]
theorem sQ_fold {m:List Int} {s:Nat} (hs:s∈[2,3,4]) (hm:mvd m s=true) (k:Nat) (hk:k<=s*s):(sQ m k).foldl (clQ s) m=nsTo m s (s*s) k:=by
 induction k with
 |zero=>rfl
 |succ k ih=>
  have ih:=ih (by omega);simp only [sQ,nsTo]
  rcases one_at hm k with ⟨hl,v,_,_,hv,hx⟩|⟨hl,h0⟩
  ·rw [if_pos hl,hv,if_neg (by omega),List.foldl_append,ih,Int.toNat_natCast];exact clQ_is hs (by rw [nsTo_len];exact len_of hs hm) (by omega) hx
  ·rw [if_neg hl,if_pos h0,ih]
theorem gv_okAll {xs:List Int} {size:Int} {n:Nat} (hg:gv xs size=true) (hl:xs.length=n):okAll xs size n:=fun k hk=>gv_nth hg (by rw [hl];exact hk)
def onL (s l i:Nat):Bool:=i/s==l||s+i%s==l
theorem onL_adj:∀ s∈[2,3,4],∀ i,i<s*s->∀ j,j<s*s->adj s i j=(i != j&&(onL s (j/s) i||onL s (s+j%s) i)):=by decide +kernel
theorem MBox.lt {w:World} {g:Nat} {M:Nat->Nat} {s:Int} (h:MBox w g M s):g<w.heap.size:=(Array.getElem?_eq_some_iff.1 h).1
theorem MBox.row_other {w:World} {g g':Nat} {cs:Array Value} {M:Nat->Nat} {s:Int} (h:MBox w g M s) (hne:g≠g'):MBox (w.setRow g' cs) g M s:=by
 unfold MBox World.setRow;simp only [Array.getElem?_modify];rw [if_neg (fun e=>hne e.symm)];exact h
theorem rc_lt:∀ s∈[2,3,4],∀ k,k<s*s->k/s<8/\s+k%s<8:=by decide +kernel
theorem line_inS {s u:Nat} (hs:s∈[2,3,4]) (hu:u<2*s):∀ j,j<s->∃ q:Nat,lineAt s u j=(q:Int)/\lcN s u j=q/\q<s*s:=by
 intro j hj;have h:=line_at hs hu j hj
 have h0:0<=lineAt s u j:=by
  simp at hs
  by_cases hx:(u:Int)<(s:Int)
  ·rw [lineAt_row hx]
   rcases hs with rfl|rfl|rfl<;>omega
  ·rw [lineAt_col hx]
   rcases hs with rfl|rfl|rfl<;>omega
 exact ⟨(lineAt s u j).toNat,by omega,rfl,h⟩
theorem lineCells_lineS {f:Nat} {s u:Nat} {w:World} (hs:s∈[2,3,4]) (hu:u<2*s) (h:Calls Tryz.prog f #[.int .i64 s,.int .i64 u] w (RetSl w (lineL s u))):
 Calls Tryz.prog f #[.int .i64 s,.int .i64 u] w fun e w''=>∃ A3 c3,e=.returned (.slice A3 s c3)/\Ow w'' w.heap.size A3 s c3 (lineTo s u s)/\Below w.heap.size w w'':=by
 refine h.mono ?_;rintro e w'' ⟨A3,c3,rfl,ho3,hb3⟩
 have e1:lineL s u=lineTo s u s:=by
  have:lineOk s u=true:=by simp [lineOk,inr];simp at hs;omega
  simp [lineL,this]
 rw [e1,lineTo_length] at ho3;rw [e1,lineTo_length];exact ⟨A3,c3,rfl,ho3,hb3⟩
set_option maxHeartbeats 1000000 in
theorem singlesIn_any (A:Option Addr) (c n B:Nat) (m:List Int) (s:Int) (w:World) (h:Rd w B A n m) (hBm:B<=w.heap.size) (hv:mvd m s=true) (hT:Tz w):
 Calls Tryz.prog 193 #[.slice A n c] w fun e w'=>∃ A' c',e=.returned (.slice A' (sQ m n).length c')/\OwF w' w.heap.size A' (sQ m n).length c' (sQ m n)/\Below w.heap.size w w':=by
 have hlen:=h.1;obtain ⟨_,_,hn16,_⟩:=mvd_at hv;rw [hlen] at hn16;have Hv:=Lib.hid hv;clear hv hlen
 go_enter Tryz.func193,Tryz.ntmps193
 go_wp2
 go_loopw [3,9] (fun qv i wr=>∃ (u k:Nat) (A':Option Addr) (c':Nat),u<=n/\i=.int .i64 u/\qv=.slice A' k c'/\Hid ((sQ m u).length=k)/\OwF wr w.heap.size A' k c' (sQ m u)/\Below w.heap.size w wr) (fun _ i _=>n-(intOf i).toNat)
 case atStart=>exact ⟨0,0,none,0,Nat.zero_le _,rfl,rfl,Lib.hid rfl,World.ownsRow_nil _ _ _ _,Below.refl _ _⟩
 case round=>
  obtain ⟨u,k,A',c',hu,rfl,rfl,hk,ho,hb⟩:=hrel
  by_cases hlt:u<n
  ·have hltI:(u:Int)<(n:Int):=by omega
   obtain ⟨b,off,rfl,hbB,hck⟩:=(h.below (hb.mono hBm)).at_ hlt;have hsw:=hb.size;have hTr:=hT.below hT.lt hb;have hk16:k<=16:=(by have:=hk.out;have:=sQ_len m u;omega);have hk11:k<=1099511627776:=(by omega);obtain ⟨x0,x1,x2⟩:=mvd_nth Hv.out u;obtain ⟨M,hM⟩:=Int.eq_ofNat_of_zero_le x0;have hm2:M%2=0:=(by rw [hM,Int.tmod_eq_emod_of_nonneg (by omega)] at x2;omega);have hM32:M<32:=(by omega);have Hone:=Lib.hid (fun w hT=>onlyValue_any M hM32 hm2 w hT);rw [show oneOf (bitsTo M 4)=oneOf (maskVals (nth m u)) by rw [hM,mv_bits hM32 hm2]] at Hone;rw [hM] at hck;have Hs:Hid (sQ m (u+1)=if oneOf (maskVals (nth m u))=0 then sQ m u else sQ m u++[(u,(oneOf (maskVals (nth m u))).toNat)]):=Lib.hid rfl
   rcases one_at Hv.out u with ⟨_,v,v1,v4,hov,_⟩|⟨_,h0⟩
   ·rw [hov] at Hone Hs;have hne:((v:Int) != 0)=true:=(by simp;omega);obtain ⟨L,hL⟩:∃ L,sQ m u=L:=⟨_,rfl⟩;have Hs':=Lib.hid (show sQ m (u+1)=L++[(u,v)] by rw [Hs.out,if_neg (by omega),hL];simp);have hk':=Lib.hid (show L.length=k by rw [<- hL];exact hk.out);rw [hL] at ho;have HO:=Lib.hid ho;clear x0 x1 x2 hM hm2 hov Hs hL ho hk
    go_wp2_with (first
     |(go_at_call 84;refine (Hone.out _ hTr).mono ?_;rintro e w' ⟨rfl,rfl⟩;have ho5:=HO.out)
     |(at_builtin;refine push_found rfl (.tmp 18) (.tmp 22) rfl w.heap.size A' k c' _ u v rfl rfl ho5 hk11 hsw ?_;intro A4 c4 w4 ho4 hg4))
    have hb4:Below w.heap.size w w4:=(hb.alloc hsw _).grown hg4 (by simp;omega) (fun j hj=>(World.ownsRow.lt HO.out j hj).1)
    go_roundw
    case rel=>exact ⟨u+1,k+1,A4,c4,by omega,by go_num,rfl,Lib.hid (by rw [Hs'.out,List.length_append,hk'.out];rfl),by rw [Hs'.out];exact ho4,hb4⟩
    case measure=>simp [intOf];omega
   ·rw [h0] at Hone Hs;have Hs':=Lib.hid (show sQ m (u+1)=sQ m u by rw [Hs.out,if_pos rfl]);clear x0 x1 x2 hM hm2 h0 Hs
    go_wp2_with (go_at_call 84;refine (Hone.out _ hTr).mono ?_;rintro e w' ⟨rfl,rfl⟩)
    go_roundw
    case rel=>exact ⟨u+1,k,A',c',by omega,by go_num,rfl,Lib.hid (by rw [Hs'.out];exact hk.out),by rw [Hs'.out];exact ho,hb⟩
    case measure=>simp [intOf];omega
  ·obtain rfl:u=n:=by omega
   go_wp2
   go_ret
   rw [hk.out];exact ⟨_,_,rfl,ho,hb⟩
def clTo (S:Nat) (o:List Int) (k v:Nat):Nat->List Int
 |0=>o
 |1=>cIn S (k/S) k (2^v) o S
 |_=>clQ S o (k,v)
def lnAt (S k:Nat):Nat->Nat
 |0=>k/S
 |_=>S+k%S
theorem clTo_step {S:Nat} {o:List Int} {k v j:Nat} (hj:j<2):clTo S o k v (j+1)=cIn S (lnAt S k j) k (2^v) (clTo S o k v j) S:=by
 have:j=0\/j=1:=by omega
 rcases this with rfl|rfl<;>rfl
set_option maxHeartbeats 2000000 in
theorem clearLines_any (g n cc lo s k v:Nat) (o:List Int) (w:World) (ho:Ow w lo (some ⟨g,0,none⟩) n cc o) (hs:s∈[2,3,4]) (hn:n=s*s) (hk:k<n) (hv1:1<=v) (hv4:v<=4):
 Calls Tryz.prog 194 #[.slice (some ⟨g,0,none⟩) n cc,.int .i64 s,.agg #[.int .i64 k,.int .i64 v]] w fun e w'=>e=.returned (.tuple #[])/\Ow w' lo (some ⟨g,0,none⟩) n cc (clQ s o (k,v))/\w.grownBy w' (some g):=by
 have hs2:2<=s:=by simp at hs;omega
 have hs4:s<=4:=by simp at hs;omega
 have hk16:k<16:=by simp at hs;rcases hs with rfl|rfl|rfl<;>omega
 have hgw:=ho.own_hi g rfl;obtain ⟨hr8,hc8⟩:=rc_lt s hs k (by rw [<- hn];exact hk)
 have Hln:Hid (∀ j,lnAt s k j<2*s):=Lib.hid (fun j=>by
  have hs0:0<s:=by omega
  unfold lnAt
  split
  ·have:k/s<s:=Nat.div_lt_of_lt_mul (by rw [<- hn];exact hk);omega
  ·have:=Nat.mod_lt k hs0;omega)
 have Hs:=Lib.hid hs;have Hn:=Lib.hid hn;have Hr:Hid ((k:Int)/(s:Int)=((k/s:Nat):Int)):=Lib.hid (by simp);have Hc:Hid ((s:Int)+(k:Int)%(s:Int)=((s+k%s:Nat):Int)):=Lib.hid (by simp);obtain ⟨r,hr⟩:∃ r,r=k/s:=⟨_,rfl⟩;obtain ⟨q,hq⟩:∃ q,q=s+k%s:=⟨_,rfl⟩;have Hr':=Lib.hid (show lnAt s k 0=r from hr.symm);have Hq':=Lib.hid (show lnAt s k 1=q from hq.symm);rw [<- hr] at Hr hr8;rw [<- hq] at Hc hc8;have hx0:(w.alloc (.cells #[.int .i64 (k:Int),.int .i64 (v:Int)] 197)).cell? ⟨w.heap.size,0,none⟩=some (.int .i64 k):=cell_of_row _ _ 0 _ _ (0,0) (heap_alloc_new w _)
 have hx1:(w.alloc (.cells #[.int .i64 (k:Int),.int .i64 (v:Int)] 197)).cell? ⟨w.heap.size,1,none⟩=some (.int .i64 v):=cell_of_row _ _ 1 _ _ (0,0) (heap_alloc_new w _)
 have hs0:w.heap.size<(w.alloc (.cells #[.int .i64 (k:Int),.int .i64 (v:Int)] 197)).heap.size:=by simp
 have hb0:Below w.heap.size w (w.alloc (.cells #[.int .i64 (k:Int),.int .i64 (v:Int)] 197)):=(Below.refl _ _).alloc (Nat.le_refl _) _
 have hw2:wrap64 ((2:Int)^v)=2^v:=by
  obtain ⟨r,rfl⟩:∃ r,v=r+1:=⟨v-1,by omega⟩;exact pow_wrap5 (by omega)
 have hv64:v<64:=by omega
 clear hr hq hs hn
 go_enter Tryz.func194,Tryz.ntmps194
 go_wp2_with (go_at_call 160;refine (linesThrough_rc s k r q _ (by omega) (by omega) hk16 Hr.out Hc.out).mono ?_;rintro e w1 ⟨rfl,hb1⟩)
 have hy0:=(hb1.cell (p:=⟨w.heap.size,0,none⟩) hs0).trans hx0;have hy1:=(hb1.cell (p:=⟨w.heap.size,1,none⟩) hs0).trans hx1;have hw1:w.heap.size<w1.heap.size:=Nat.lt_of_lt_of_le hs0 hb1.size;have hbA:=step hb0 hb1;obtain ⟨W,hW⟩:∃ W,w1.alloc (.cells #[.int .i64 (r:Int),.int .i64 (q:Int)] 3)=W:=⟨_,rfl⟩
 have hz0:W.cell? ⟨w1.heap.size,0,none⟩=some (.int .i64 r):=by rw [<- hW];exact cell_of_row _ _ 0 _ _ (0,0) (heap_alloc_new w1 _)
 have hz1:W.cell? ⟨w1.heap.size,1,none⟩=some (.int .i64 q):=by rw [<- hW];exact cell_of_row _ _ 1 _ _ (0,0) (heap_alloc_new w1 _)
 have hbW:Below w1.heap.size w1 W:=by rw [<- hW];exact (Below.refl _ _).alloc (Nat.le_refl _) _
 have hsW:w1.heap.size<W.heap.size:=by rw [<- hW];simp
 have hb2:=step hbA hbW;have hoW:=ho.below hb2;have hq0:=(hbW.cell (p:=⟨w.heap.size,0,none⟩) hw1).trans hy0;have hq1:=(hbW.cell (p:=⟨w.heap.size,1,none⟩) hw1).trans hy1;obtain ⟨L,hL⟩:∃ L,w1.heap.size=L:=⟨_,rfl⟩;have HW:=Lib.hid hW;rw [hL] at hz0 hz1 hsW hw1
 have HS:Hid (∀ wr,W.grownBy wr (some g)->wr.cell? ⟨w.heap.size,0,none⟩=some (.int .i64 k)/\wr.cell? ⟨w.heap.size,1,none⟩=some (.int .i64 v)/\wr.cell? ⟨L,0,none⟩=some (.int .i64 r)/\wr.cell? ⟨L,1,none⟩=some (.int .i64 q)):=Lib.hid (fun wr hg=>
  ⟨(hg.cell_far ⟨w.heap.size,0,none⟩ (by show w.heap.size<_;omega) (fun e=>by injection e with e;dsimp only at e;omega)).trans hq0,(hg.cell_far ⟨w.heap.size,1,none⟩ (by show w.heap.size<_;omega) (fun e=>by injection e with e;dsimp only at e;omega)).trans hq1,
   (hg.cell_far ⟨L,0,none⟩ (by show L<_;omega) (fun e=>by injection e with e;dsimp only at e;omega)).trans hz0,(hg.cell_far ⟨L,1,none⟩ (by show L<_;omega) (fun e=>by injection e with e;dsimp only at e;omega)).trans hz1⟩)
 have hgr2:w.grownBy W (some g):=⟨hb2.os,hb2.tape,hb2.output,hb2.size,fun j hj _=>hb2.block j hj⟩;have HG2:=Lib.hid hgr2;clear hW hx0 hx1 hy0 hy1 hz0 hz1 hq0 hq1 hb0 hb1 hbA hbW hb2 hgr2 ho;rw [HW.out,hL]
 go_loopw [23] (fun i wr=>∃ j:Nat,j<=2/\i=.int .i64 j/\Ow wr lo (some ⟨g,0,none⟩) n cc (clTo s o k v j)/\W.grownBy wr (some g)) (fun i _=>2-(intOf i).toNat)
 case atStart=>exact ⟨0,Nat.zero_le _,rfl,hoW,World.grownBy.refl _ _⟩
 case round=>
  obtain ⟨j,hj,rfl,ho,hg⟩:=hrel
  by_cases hlt:j<2
  ·have hltI:(j:Int)<2:=by omega
   have hline:wr.cell? ⟨L,j,none⟩=some (.int .i64 (lnAt s k j:Nat)):=by
    obtain ⟨_,_,c0,c1⟩:=HS.out wr hg;have:j=0\/j=1:=(by omega)
    rcases this with rfl|rfl
    ·rw [Hr'.out];exact c0
    ·rw [Hq'.out];exact c1
   obtain ⟨u,hu⟩:∃ u,lnAt s k j=u:=⟨_,rfl⟩;have hu2:u<2*s:=(by rw [<- hu];exact Hln.out j);have Hst:=Lib.hid (clTo_step (S:=s) (o:=o) (k:=k) (v:=v) hlt);rw [hu] at hline Hst;obtain ⟨oj,hoj⟩:∃ oj,clTo s o k v j=oj:=⟨_,rfl⟩;rw [hoj] at ho Hst;have HLc:=Lib.hid (lineCells_lineS Hs.out hu2 (implLineCells s u wr ⟨by omega,by omega⟩));have hat:=Lib.hid (line_inS Hs.out hu2);rw [<- Hn.out] at hat;have hgwr:=ho.own_hi g rfl;clear hu hoj
   go_wp2_with (go_at_call 196;refine HLc.out.mono ?_;rintro e w3 ⟨A3,c3,rfl,ho3,hb3⟩)
   have hoA:=ho.below hb3;have hgA:W.grownBy w3 (some g):=hg.trans ⟨hb3.os,hb3.tape,hb3.output,hb3.size,fun j hj _=>hb3.block j hj⟩;have ho3':=ho3.mono (show g+1<=wr.heap.size from hgwr);clear ho ho3 hg hb3
   go_loopw [31] (fun i wr=>∃ t:Nat,t<=s/\i=.int .i64 t/\Ow wr lo (some ⟨g,0,none⟩) n cc (cIn s u k (2^v) oj t)/\Ow wr (g+1) A3 s c3 (lineTo s u s)/\W.grownBy wr (some g)) (fun i _=>s-(intOf i).toNat)
   case atStart=>exact ⟨0,Nat.zero_le _,rfl,hoA,ho3',hgA⟩
   case round=>
    clear hoA ho3' hgA hline;obtain ⟨t,ht,rfl,ho,hoL,hg⟩:=hrel
    by_cases hts:t<s
    ·have htI:(t:Int)<(s:Int):=(by omega);obtain ⟨p,hp,hpc,hpn⟩:=hat.out t hts;obtain ⟨g3,rfl,_,_⟩:=hoL.form (by omega);obtain ⟨hcl,_⟩:=hoL.cell hts;rw [lineTo_nth hts,hp] at hcl;obtain ⟨d0,d1,_,_⟩:=HS.out wr hg;obtain ⟨ot,hot⟩:∃ ot,cIn s u k (2^v) oj t=ot:=⟨_,rfl⟩;have Hs1:=Lib.hid (show cIn s u k (2^v) oj (t+1)=if p≠k then ot.set p (bits .andNot .i64 (nth ot p) (2^v)) else ot by simp only [cIn];rw [hpc,hot]);rw [hot] at ho;clear hp hpc hot
     by_cases hpk:p=k
     ·have hne:((p:Int) != (k:Int))=false:=(by simp;omega);have Hs1':=Lib.hid (show cIn s u k (2^v) oj (t+1)=ot by rw [Hs1.out,if_neg (by simpa using hpk)]);clear hpk Hs1
      go_wp2
      go_roundw
      case rel=>exact ⟨t+1,by omega,by go_num,by rw [Hs1'.out];exact ho,hoL,hg⟩
      case measure=>simp [intOf];omega
     ·have hne:((p:Int) != (k:Int))=true:=(by simp;omega);obtain ⟨hcn,hfn⟩:=ho.cell hpn;have hpI:(p:Int)<(n:Int):=(by omega);obtain ⟨z,hz⟩:∃ z,bits .andNot .i64 (nth ot p) (2^v)=z:=⟨_,rfl⟩;have Hs1':=Lib.hid (show cIn s u k (2^v) oj (t+1)=ot.set p z by rw [Hs1.out,if_pos hpk,hz]);have Hz:=Lib.hid hz;have hput:=Lib.hid (ho.putN p z);have hLp:=Lib.hid (hoL.far (w':=wr.setCell ⟨g,p,none⟩ (.int .i64 z)) grown_set (fun b hb e=>by have h1:=hoL.own_lo b hb;injection e with e;omega));have hgp:=Lib.hid (hg.trans (grown_set (w:=wr) (G:=g) (i:=p) (v:=(.int .i64 z))))
      clear hpk Hs1 hz
      go_wp2
      go_region
      rw [Hz.out]
      go_wp2
      go_roundw
      case rel=>exact ⟨t+1,by omega,by go_num,by rw [Hs1'.out];exact hput.out,hLp.out,grown_drew hgp.out⟩
      case measure=>simp [intOf];omega
    ·obtain rfl:t=s:=by omega
     go_wp2
     go_roundw
     case rel=>exact ⟨j+1,by omega,by go_num,by rw [Hst.out];exact ho,hg⟩
     case measure=>simp [intOf];omega
  ·have hj2:j=2:=by omega
   have hjI:¬ (j:Int)<2:=(by omega);have ho':=Lib.hid (show Ow wr lo (some ⟨g,0,none⟩) n cc (clQ s o (k,v)) by rw [hj2] at ho;exact ho);clear hj2 hlt ho
   go_wp2
   go_end0
   exact ⟨rfl,ho'.out,HG2.out.trans hg⟩
set_option maxHeartbeats 2000000 in
theorem implNarrowSingles (A:Option Addr) (c n B:Nat) (m:List Int) (size:Int) (w:World) (h:Rd w B A n m) (hm64:B64 m) (hT:Tz w) (hBm:B<=w.heap.size) (hm:n<=1099511627776) (hsb: -9223372036854775808<=size/\size<=9223372036854775807):
 Calls Tryz.prog 186 #[.slice A n c,.int .i64 size] w (RetSl w (nsL m size n)):=by
 have hlen:=Lib.hid h.1;have HV:=Lib.hid (implMasksValid A c n B m size w h hm64 hBm hm hsb);cases hv:mvd m size
 ·have HL:=Lib.hid (show nsL m size n=[] by simp [nsL,hv])
  go_enter Tryz.func186,Tryz.ntmps186
  go_wp2_with (go_at_call 83;refine HV.out.mono ?_;rintro e w1 ⟨rfl,hb1⟩;rw [hv])
  go_ret
  rw [HL.out];exact ⟨_,_,rfl,Ow.nil_ _ _,hb1⟩
 ·obtain ⟨⟨s2,s4⟩,hsq,hn16,hrng⟩:=mvd_at hv;obtain ⟨s,rfl⟩:=Int.eq_ofNat_of_zero_le (by omega:0<=size)
  have hs:s∈[2,3,4]:=by simp;omega
  have hn:n=s*s:=by rw [<- hlen.out];exact len_of hs hv
  have hn0:0<n:=by
   simp at hs
   rcases hs with rfl|rfl|rfl<;>omega
  have HCl:=Lib.hid (fun w' (hb:Below w.heap.size w w')=>clone_any A n c B m w' (h.below (hb.mono hBm)) (Nat.le_trans hBm hb.size) hn0 hm);have HHi:=Lib.hid (fun w' (hb:Below w.heap.size w w')=>singlesIn_any A c n B m s w' (h.below (hb.mono hBm)) (Nat.le_trans hBm hb.size) hv (hT.below hT.lt hb));have Hin:=Lib.hid (sQ_in hv n);have HQ:=sQ_len m n
  have HF:=Lib.hid (show nsL m s n=(sQ m n).foldl (clQ s) m by
   rw [hn,sQ_fold hs hv (s*s) (Nat.le_refl _)];simp [nsL,hv])
  have Hs:=Lib.hid hs;have Hn:=Lib.hid hn;obtain ⟨q,hq⟩:∃ q,q=sQ m n:=⟨_,rfl⟩;rw [<- hq] at HHi Hin HQ HF;obtain ⟨K,hK⟩:∃ K,K=q.length:=⟨_,rfl⟩;rw [<- hK] at HHi HQ;have HK:=Lib.hid hK;clear hrng hsq hq hK hn hs hn16
  go_enter Tryz.func186,Tryz.ntmps186
  go_wp2_with (first
   |(go_at_call 83;refine HV.out.mono ?_;rintro e w1 ⟨rfl,hb1⟩;rw [hv])
   |(go_at_call 70;refine (HCl.out _ hb1).mono ?_;rintro e w2 ⟨Ac,cc,rfl,ho2,hb2⟩;have hb12:=step hb1 hb2)
   |(go_at_call 193;refine (HHi.out _ hb12).mono ?_;rintro e w3 ⟨Aq,cq,rfl,hoq,hb3⟩))
  have hb13:=step hb12 hb3;have ho3:=(ho2.mono hb1.size).below hb3;obtain ⟨g,rfl,hgl,hgw⟩:=ho3.form hn0;have hoq':OwF w3 (g+1) Aq K cq q:=World.ownsRow.mono hoq (show g+1<=w2.heap.size from (ho2.mono hb1.size).own_hi g rfl)
  go_loopw [17] (fun i wr=>∃ k:Nat,k<=K/\i=.int .i64 k/\Ow wr w.heap.size (some ⟨g,0,none⟩) n cc ((q.take k).foldl (clQ s) m)/\OwF wr (g+1) Aq K cq q/\Below w.heap.size w wr) (fun i _=>K-(intOf i).toNat)
  case atStart=>exact ⟨0,Nat.zero_le _,rfl,ho3,hoq',hb13⟩
  case round=>
   clear ho3 hoq hoq' hb13 hb12 hb1 hb2 hb3 ho2;obtain ⟨k,hk,rfl,ho,hof,hb⟩:=hrel
   by_cases hlt:k<K
   ·obtain ⟨gq,rfl,hgq,hcx,hcy⟩:=hof.cells hlt;have hkq:k<q.length:=(by rw [<- HK.out];exact hlt)
    have hmem:q.getD k (0,0)∈q:=by
     rw [List.getD_eq_getElem?_getD,List.getElem?_eq_getElem hkq];exact List.getElem_mem _
    obtain ⟨hx,hy1,hy4⟩:=Hin.out _ hmem
    have HT:=Lib.hid (show (q.take (k+1)).foldl (clQ s) m=clQ s ((q.take k).foldl (clQ s) m) ((q.getD k (0,0)).1,(q.getD k (0,0)).2) by
     rw [List.take_add_one,List.getElem?_eq_getElem hkq]
     simp only [Option.toList_some,List.foldl_append,List.foldl_cons,List.foldl_nil,List.getD_eq_getElem?_getD,List.getElem?_eq_getElem hkq,Option.getD_some])
    obtain ⟨x,hxe⟩:∃ x,x=(q.getD k (0,0)).1:=⟨_,rfl⟩;obtain ⟨y,hye⟩:∃ y,y=(q.getD k (0,0)).2:=⟨_,rfl⟩;rw [<- hxe] at hcx hx HT;rw [<- hye] at hcy hy1 hy4 HT;obtain ⟨o,hoe⟩:∃ o,o=(q.take k).foldl (clQ s) m:=⟨_,rfl⟩;rw [<- hoe] at ho HT;clear hxe hye hmem hoe;have hgr:=ho.own_hi g rfl;have hgl2:=ho.own_lo g rfl;obtain ⟨W,hW⟩:∃ W,wr.alloc (.cells #[.int .i64 (x:Int),.int .i64 (y:Int)] 197)=W:=⟨_,rfl⟩;have hoW:Ow W w.heap.size (some ⟨g,0,none⟩) n cc o:=(by rw [<- hW];exact World.ownsRow.alloc ho _);have hofW:OwF W (g+1) (some ⟨gq,0,none⟩) K cq q:=(by rw [<- hW];exact World.ownsRow.alloc hof _);have hbW:Below w.heap.size w W:=(by rw [<- hW];exact hb.alloc hb.size _);have hz0:W.cell? ⟨wr.heap.size,0,none⟩=some (.int .i64 (x:Int)):=(by rw [<- hW];exact cell_of_row _ _ 0 _ _ (0,0) (heap_alloc_new wr _));have hz1:W.cell? ⟨wr.heap.size,1,none⟩=some (.int .i64 (y:Int)):=(by rw [<- hW];exact cell_of_row _ _ 1 _ _ (0,0) (heap_alloc_new wr _));have HCL:=Lib.hid (clearLines_any g n cc w.heap.size s x y o W hoW Hs.out Hn.out hx hy1 hy4);have HW:=Lib.hid hW;clear hW
    go_wp2_with (go_at_call 194;rw [HW.out];refine HCL.out.mono ?_;rintro e w5 ⟨rfl,ho5,hg5⟩)
    have hof5:OwF w5 (g+1) (some ⟨gq,0,none⟩) K cq q:=World.ownsRow.kept hofW hg5 (.inr (fun e=>by
     have h1:=(World.ownsRow.lt hofW g e).1;omega))
    have hb5:Below w.heap.size w w5:=hbW.grown hg5 hbW.size (fun j hj=>by injection hj with hj;omega)
    go_roundw
    case rel=>exact ⟨k+1,by omega,by go_num,by rw [HT.out];exact ho5,hof5,hb5⟩
    case measure=>simp [intOf];omega
   ·obtain rfl:k=K:=by omega
    rw [show q.take k=q by rw [HK.out];exact List.take_length] at ho
    go_wp2
    go_ret
    rw [HF.out];exact retSl_mk ho hb
theorem ones64_odd (M:Nat) (h:M<32) (he:M%2=1) (w:World):Calls Tryz.prog 147 #[.int .u64 M] w fun e w'=>e=.returned (.int .i64 (Lib.onesCount M:Nat))/\w=w':=by
 have:M=1\/M=3\/M=5\/M=7\/M=9\/M=11\/M=13\/M=15\/M=17\/M=19\/M=21\/M=23\/M=25\/M=27\/M=29\/M=31:=by omega
 rcases this with rfl|rfl|rfl|rfl|rfl|rfl|rfl|rfl|rfl|rfl|rfl|rfl|rfl|rfl|rfl|rfl
 all_goals
  go_enter Tryz.func147,Tryz.ntmps147
  go_wp2
  go_ret
  exact ⟨by kernel_rfl,rfl⟩
theorem ones_all (M:Nat) (h:M<32) (w:World):Calls Tryz.prog 100 #[.int .u64 M] w fun e w'=>e=.returned (.int .i64 (Lib.onesCount M:Nat))/\w=w':=by
 by_cases he:M%2=0
 ·exact ones_any M h he w
 ·go_enter Tryz.func100,Tryz.ntmps100
  go_wp2_with (go_at_call 147;refine (ones64_odd M h (by omega) _).mono ?_;rintro e w' ⟨rfl,rfl⟩)
  go_ret
  exact ⟨rfl,rfl⟩
theorem pairMask_any (M:Nat) (h:M<32) (w:World):Calls Tryz.prog 203 #[.int .i64 M] w fun e w'=>e=.returned (.bool (two M))/\w=w':=by
 have hl:=ones_lt M h;have Ho:=Lib.hid (fun w=>ones_all M h w)
 have Ht:=Lib.hid (show two M=decide (((Lib.onesCount M:Nat):Int)=2) by
  rw [two,Bool.eq_iff_iff,beq_iff_eq,decide_eq_true_eq];omega)
 obtain ⟨p,hp⟩:∃ p,Lib.onesCount M=p:=⟨_,rfl⟩;rw [hp] at Ho Ht hl;clear hp
 go_enter Tryz.func203,Tryz.ntmps203
 go_wp2_with (go_at_call 100;refine (Ho.out _).mono ?_;rintro e w' ⟨rfl,rfl⟩)
 go_ret
 exact ⟨by rw [Ht.out];rfl,rfl⟩
def up1 (C:Nat->Nat) (j:Nat):Nat->Nat:=fun i=>if i=j then C i+1 else C i
theorem cN_up (v:Nat->Nat) (k:Nat):(fun x=>cN v x (k+1))=up1 (fun x=>cN v x k) (v k):=by
 funext x
 simp only [cN,up1]
 by_cases h:v k=x
 ·rw [if_pos h,if_pos h.symm]
 ·rw [if_neg h,if_neg (fun e=>h e.symm)]
def kcells (C:Nat->Nat):Array Value:= #[.int .i64 (C 0),.int .i64 (C 1),.int .i64 (C 2),.int .i64 (C 3),.int .i64 (C 4),.int .i64 (C 5),.int .i64 (C 6),.int .i64 (C 7),.int .i64 (C 8),.int .i64 (C 9),.int .i64 (C 10),.int .i64 (C 11),.int .i64 (C 12),.int .i64 (C 13),.int .i64 (C 14),.int .i64 (C 15),.int .i64 (C 16),.int .i64 (C 17),.int .i64 (C 18),.int .i64 (C 19),.int .i64 (C 20),.int .i64 (C 21),.int .i64 (C 22),.int .i64 (C 23),.int .i64 (C 24),.int .i64 (C 25),.int .i64 (C 26),.int .i64 (C 27),.int .i64 (C 28),.int .i64 (C 29),.int .i64 (C 30),.int .i64 (C 31)]
theorem kcells_size (C:Nat->Nat):(kcells C).size=32:=rfl
theorem kcell_at (C:Nat->Nat):∀ {l:Nat},l<32->(kcells C)[l]? =some (.int .i64 (C l))
 |0,_=>rfl
 |1,_=>rfl
 |2,_=>rfl
 |3,_=>rfl
 |4,_=>rfl
 |5,_=>rfl
 |6,_=>rfl
 |7,_=>rfl
 |8,_=>rfl
 |9,_=>rfl
 |10,_=>rfl
 |11,_=>rfl
 |12,_=>rfl
 |13,_=>rfl
 |14,_=>rfl
 |15,_=>rfl
 |16,_=>rfl
 |17,_=>rfl
 |18,_=>rfl
 |19,_=>rfl
 |20,_=>rfl
 |21,_=>rfl
 |22,_=>rfl
 |23,_=>rfl
 |24,_=>rfl
 |25,_=>rfl
 |26,_=>rfl
 |27,_=>rfl
 |28,_=>rfl
 |29,_=>rfl
 |30,_=>rfl
 |31,_=>rfl
 |n+32,h=>absurd h (by omega)
theorem kcells_set (C:Nat->Nat):∀ {l:Nat},l<32->(kcells C).setIfInBounds l (.int .i64 ((C l+1:Nat):Int))=kcells (up1 C l)
 |0,_=>rfl
 |1,_=>rfl
 |2,_=>rfl
 |3,_=>rfl
 |4,_=>rfl
 |5,_=>rfl
 |6,_=>rfl
 |7,_=>rfl
 |8,_=>rfl
 |9,_=>rfl
 |10,_=>rfl
 |11,_=>rfl
 |12,_=>rfl
 |13,_=>rfl
 |14,_=>rfl
 |15,_=>rfl
 |16,_=>rfl
 |17,_=>rfl
 |18,_=>rfl
 |19,_=>rfl
 |20,_=>rfl
 |21,_=>rfl
 |22,_=>rfl
 |23,_=>rfl
 |24,_=>rfl
 |25,_=>rfl
 |26,_=>rfl
 |27,_=>rfl
 |28,_=>rfl
 |29,_=>rfl
 |30,_=>rfl
 |31,_=>rfl
 |n+32,h=>absurd h (by omega)
theorem kone (C:Nat->Nat):(kcells C).all (·.oneCell')=true:=by simp [kcells,Value.oneCell']
def KBox (w:World) (g:Nat) (C:Nat->Nat):Prop:=w.heap[g]? =some (.cells (kcells C) 201)
section
variable {w w' : World} {g : Nat} {C : Nat → Nat}
theorem KBox.lt (h:KBox w g C):g<w.heap.size:=(Array.getElem?_eq_some_iff.1 h).1
theorem KBox.cell (h:KBox w g C) {l:Nat} (hl:l<32):w.cell? ⟨g,l,none⟩=some (.int .i64 (C l)):=
 (cell_of_row _ _ l _ _ (0,0) h).trans (kcell_at C hl)
theorem KBox.frozen (h:KBox w g C) (l:Nat):w.frozen? ⟨g,l,none⟩=false:=by
 unfold World.frozen?;rw [show w.heap[g]? =_ from h]
 simp
theorem KBox.set (h:KBox w g C) {l:Nat} (hl:l<32):KBox (w.setCell ⟨g,l,none⟩ (.int .i64 ((C l:Int)+1))) g (up1 C l):=by
 show KBox (w.setCell ⟨g,l,none⟩ (.int .i64 ((C l+1:Nat):Int))) g (up1 C l)
 unfold KBox;rw [heap_setCell_same w g l _ _ _ h,<-kcells_set C hl]
theorem KBox.below {B:Nat} (h:KBox w g C) (hg:g<B) (hb:Below B w w'):KBox w' g C:=(hb.block g hg).trans h
theorem KBox.other {g' k:Nat} {v:Value} (h:KBox w g C) (hne:g≠g'):KBox (w.setCell ⟨g',k,none⟩ v) g C:=(heap_setCell_other w _ g v hne).trans h
theorem KBox.stored {C':Nat->Nat} (h:KBox w g C):KBox (w.setRow g (kcells C')) g C':=setRow_heap w g _ _ _ _ h
end
theorem kinfo (C:Nat->Nat):(Tryz.prog.info? 201).map (·.size)=some (kcells C).size:=by rw [kcells_size];kernel_rfl
def kzero:Array Value:= #[.int .i64 0,.int .i64 0,.int .i64 0,.int .i64 0,.int .i64 0,.int .i64 0,.int .i64 0,.int .i64 0,.int .i64 0,.int .i64 0,.int .i64 0,.int .i64 0,.int .i64 0,.int .i64 0,.int .i64 0,.int .i64 0,.int .i64 0,.int .i64 0,.int .i64 0,.int .i64 0,.int .i64 0,.int .i64 0,.int .i64 0,.int .i64 0,.int .i64 0,.int .i64 0,.int .i64 0,.int .i64 0,.int .i64 0,.int .i64 0,.int .i64 0,.int .i64 0]
theorem kzero_is:kzero=kcells (fun _=>0):=rfl
def kstart (w:World):World:=(w.alloc (.cells kzero 201)).alloc (.cells kzero 201)
theorem kstart_facts (w:World):KBox (kstart w) (w.heap.size+1) (fun _=>0)/\KBox (kstart w) w.heap.size (fun _=>0)/\Below w.heap.size w (kstart w):=by
 unfold kstart;rw [kzero_is];refine ⟨?_,?_,((Below.refl _ _).alloc (Nat.le_refl _) _).alloc (by simp) _⟩
 ·have:=heap_alloc_new (w.alloc (Obj.cells (kcells (fun _=>0)) 201)) (.cells (kcells (fun _=>0)) 201);simp only [World.size_alloc] at this;exact this
 ·exact (heap_alloc_old _ _ (by simp)).trans (heap_alloc_new w _)
set_option maxHeartbeats 1000000 in
theorem countsOf_any (A:Option Addr) (c n B:Nat) (xs:List Int) (v:Nat->Nat) (w:World) (h:Rd w B A n xs) (hB:B<=w.heap.size) (hn:n<=4) (hv:Hid (∀ k,k<n->nth xs k=(v k:Nat)/\v k<32)):
 Calls Tryz.prog 197 #[.slice A n c] w fun e w'=>e=.returned (.agg (kcells fun x=>cN v x n))/\Below w.heap.size w w':=by
 have Hi:=Lib.hid (fun C=>kinfo C);have Hone:=Lib.hid (fun C=>kone C);obtain ⟨hx0,hy0,hb0⟩:=kstart_facts w;obtain ⟨w0,hw0⟩:∃ w0,kstart w=w0:=⟨_,rfl⟩;rw [hw0] at hx0 hy0 hb0;have Hw:=Lib.hid (show (w.alloc (.cells #[.int .i64 0,.int .i64 0,.int .i64 0,.int .i64 0,.int .i64 0,.int .i64 0,.int .i64 0,.int .i64 0,.int .i64 0,.int .i64 0,.int .i64 0,.int .i64 0,.int .i64 0,.int .i64 0,.int .i64 0,.int .i64 0,.int .i64 0,.int .i64 0,.int .i64 0,.int .i64 0,.int .i64 0,.int .i64 0,.int .i64 0,.int .i64 0,.int .i64 0,.int .i64 0,.int .i64 0,.int .i64 0,.int .i64 0,.int .i64 0,.int .i64 0,.int .i64 0] 201)).alloc (.cells #[.int .i64 0,.int .i64 0,.int .i64 0,.int .i64 0,.int .i64 0,.int .i64 0,.int .i64 0,.int .i64 0,.int .i64 0,.int .i64 0,.int .i64 0,.int .i64 0,.int .i64 0,.int .i64 0,.int .i64 0,.int .i64 0,.int .i64 0,.int .i64 0,.int .i64 0,.int .i64 0,.int .i64 0,.int .i64 0,.int .i64 0,.int .i64 0,.int .i64 0,.int .i64 0,.int .i64 0,.int .i64 0,.int .i64 0,.int .i64 0,.int .i64 0,.int .i64 0] 201)=w0 from hw0)
 clear hw0
 go_enter Tryz.func197,Tryz.ntmps197
 go_wp2
 rw [Hw.out];clear Hw
 go_loopw [8] (fun i wr=>∃ k:Nat,k<=n/\i=.int .i64 k/\Hid (KBox wr (w.heap.size+1) (fun x=>cN v x k))/\Hid (KBox wr w.heap.size (fun _=>0))/\Below w.heap.size w wr) (fun i _=>n-(intOf i).toNat)
 case atStart=>exact ⟨0,Nat.zero_le _,rfl,Lib.hid hx0,Lib.hid hy0,hb0⟩
 case round=>
  obtain ⟨k,hk,rfl,hx,hy,hb⟩:=hrel
  by_cases hlt:k<n
  ·obtain ⟨b,off,rfl,hbB,hck⟩:=(h.below (hb.mono hB)).at_ hlt;obtain ⟨e1,e2⟩:=hv.out k hlt;rw [e1] at hck;obtain ⟨u,hu⟩:∃ u,v k=u:=⟨_,rfl⟩;have hstep:=Lib.hid (cN_up v k);rw [hu] at hck e2 hstep;have hl:=cN_le v u k;obtain ⟨q,hq⟩:∃ q,cN v u k=q:=⟨_,rfl⟩;rw [hq] at hl;have hk1:=hx.out.cell e2;have hf1:=hx.out.frozen u;have hs:=hx.out.set e2;simp only [hq] at hk1 hs;have hs':=Lib.hid hs;have huI:(u:Int)<32:=(by omega);clear hs hu hq e1
   go_wp2
   go_roundw
   case rel=>exact ⟨k+1,by omega,by go_num,Lib.hid (by rw [hstep.out];exact hs'.out),Lib.hid (hy.out.other (by omega)),hb.setCell (p:=(⟨w.heap.size+1,u,none⟩:Addr)) (by simp) _⟩
   case measure=>simp [intOf];omega
  ·obtain rfl:k=n:=by omega
   have hxf:=Lib.hid (KBox.stored (C':=fun x=>cN v x k) hy.out);have hBe:=setRow_below (g:=w.heap.size) (cs:=kcells (fun x=>cN v x k)) hb (Nat.le_refl _)
   go_wp2_with (first|(refine wpList_load_row rfl 201 _ rfl (w.heap.size+1) rfl 201 (kcells (fun x=>cN v x k)) (0,0) _ hx.out Tryz.underlying201 rfl (Hi.out _) ?_)|(refine wpList_store_row rfl 201 _ _ rfl w.heap.size (kcells (fun x=>cN v x k)) rfl rfl 201 (kcells (fun _=>0)) hy.out (Hi.out _) rfl (Hone.out _) ?_))
   refine bodyPost_ret (v:=.agg (kcells (fun x=>cN v x k))) (results_cell_row (by rfl) _ _ w.heap.size 201 _ (0,0) _ rfl hxf.out Tryz.underlying201 rfl (Hi.out _)) rfl ⟨rfl,hBe⟩
theorem kidx (C:Nat->Nat) (w:World):∀ {l:Nat},l<32->(Instr.index 201 (.agg (kcells C)) (.int .i64 ((l:Nat):Int))).run Tryz.prog w=.ok (.int .i64 (C l)) w
 |0,_=>by kernel_rfl
 |1,_=>by kernel_rfl
 |2,_=>by kernel_rfl
 |3,_=>by kernel_rfl
 |4,_=>by kernel_rfl
 |5,_=>by kernel_rfl
 |6,_=>by kernel_rfl
 |7,_=>by kernel_rfl
 |8,_=>by kernel_rfl
 |9,_=>by kernel_rfl
 |10,_=>by kernel_rfl
 |11,_=>by kernel_rfl
 |12,_=>by kernel_rfl
 |13,_=>by kernel_rfl
 |14,_=>by kernel_rfl
 |15,_=>by kernel_rfl
 |16,_=>by kernel_rfl
 |17,_=>by kernel_rfl
 |18,_=>by kernel_rfl
 |19,_=>by kernel_rfl
 |20,_=>by kernel_rfl
 |21,_=>by kernel_rfl
 |22,_=>by kernel_rfl
 |23,_=>by kernel_rfl
 |24,_=>by kernel_rfl
 |25,_=>by kernel_rfl
 |26,_=>by kernel_rfl
 |27,_=>by kernel_rfl
 |28,_=>by kernel_rfl
 |29,_=>by kernel_rfl
 |30,_=>by kernel_rfl
 |31,_=>by kernel_rfl
 |n+32,h=>absurd h (by omega)
theorem kbox_new (w:World) (C:Nat->Nat):KBox (w.alloc (.cells (kcells C) 201)) w.heap.size C:=heap_alloc_new w _
set_option maxHeartbeats 8000000 in
theorem taken_any (C:Nat->Nat) (x:Nat) (w:World) (hC:∀ x,C x<=4):
 Calls Tryz.prog 198 #[.agg (kcells C),.int .i64 x] w fun e w'=>e=.returned (.int .i64 (tkF C x 32:Nat))/\Below w.heap.size w w':=by
 have hx0:=Lib.hid (kbox_new w C);have hb0:Below w.heap.size w (w.alloc (.cells (kcells C) 201)):=(Below.refl _ _).alloc (Nat.le_refl _) _;have Hi:=Lib.hid (kinfo C);have HP:=Lib.hid (fun K w' (h:K<32)=>pairMask_any K h w');have Hidx0:=Lib.hid (fun w' (l:Nat) (h:l<32)=>kidx C w' h);obtain ⟨V,hV⟩:∃ V,V=Value.agg (kcells C):=⟨_,rfl⟩;have Hidx:Hid (∀ (w':World) (l:Nat),l<32->(Instr.index 201 V (.int .i64 ((l:Nat):Int))).run Tryz.prog w'=.ok (.int .i64 (C l)) w'):=Lib.hid (by rw [hV];exact Hidx0.out);have HV:=Lib.hid hV;clear hV Hidx0
 go_enter Tryz.func198,Tryz.ntmps198
 go_wp2_with (refine wpList_load_row rfl 201 _ rfl w.heap.size rfl 201 (kcells C) (0,0) _ hx0.out Tryz.underlying201 rfl Hi.out ?_;rw [<- HV.out])
 go_loopw [5,9] (fun q i wr=>∃ k:Nat,k<=32/\i=.int .i64 k/\q=.int .i64 (tkF C x k:Nat)/\Below w.heap.size w wr) (fun _ i _=>32-(intOf i).toNat)
 case atStart=>exact ⟨0,Nat.zero_le _,rfl,rfl,hb0⟩
 case round=>
  obtain ⟨k,hk,rfl,rfl,hb⟩:=hrel;have hle:=tkF_lt C x k (by omega)
  by_cases hlt:k<32
  ·have hlI:(k:Int)<32:=by omega
   have hix:=Hidx.out wr k hlt;have h4:=hC k;obtain ⟨p,hp⟩:∃ p,tkF C x k=p:=⟨_,rfl⟩;have hor:=i64_or_nat p k (by omega) (by omega);rw [hp] at hle;obtain ⟨q,hq⟩:∃ q,C k=q:=⟨_,rfl⟩;have htk:tkC C x k=(two k&&(decide (2<q)||(q==2&&k != x))):=(by rw [<- hq];rfl);have Hs:=Lib.hid (show tkF C x (k+1)=if (two k&&(decide (2<q)||(q==2&&k != x)))=true then p|||k else p by simp only [tkF];rw [htk,hp]);rw [hq] at h4 hix;rw [hp];clear hp hq htk;cases h2:two k
   ·have Hs':=Lib.hid (show tkF C x (k+1)=p by rw [Hs.out,h2];rfl);clear hor
    go_wp2_with (go_at_call 203;refine (HP.out k _ hlt).mono ?_;rintro e w3 ⟨rfl,rfl⟩;rw [h2])
    go_roundw
    case rel=>exact ⟨k+1,by omega,by go_num,by rw [Hs'.out],hb⟩
    case measure=>simp [intOf];omega
   ·by_cases hq2:2<q
    ·have hI:(2:Int)<(q:Int):=(by omega);have Hs':=Lib.hid (show tkF C x (k+1)=p|||k by rw [Hs.out,h2];simp [hq2]);clear Hs
     go_wp2_with (go_at_call 203;refine (HP.out k _ hlt).mono ?_;rintro e w3 ⟨rfl,rfl⟩;rw [h2])
     go_roundw
     case rel=>exact ⟨k+1,by omega,by go_num,by rw [Hs'.out],hb⟩
     case measure=>simp [intOf];omega
    ·have hI:¬ (2:Int)<(q:Int):=(by omega)
     by_cases hqe:q=2
     ·have hq2I:(q:Int)=2:=(by omega);rw [hq2I] at hix;clear hI hq2I
      by_cases hkx:k=x
      ·have hne:((k:Int) != (x:Int))=false:=(by simp;omega);have Hs':=Lib.hid (show tkF C x (k+1)=p by rw [Hs.out,h2];simp [hq2,hkx]);clear Hs hor hqe hkx hq2
       go_wp2_with (go_at_call 203;refine (HP.out k _ hlt).mono ?_;rintro e w3 ⟨rfl,rfl⟩;rw [h2])
       go_roundw
       case rel=>exact ⟨k+1,by omega,by go_num,by rw [Hs'.out],hb⟩
       case measure=>simp [intOf];omega
      ·have hne:((k:Int) != (x:Int))=true:=(by simp;omega);have Hs':=Lib.hid (show tkF C x (k+1)=p|||k by rw [Hs.out,h2];simp [hqe,hkx]);clear Hs hqe hkx hq2
       go_wp2_with (go_at_call 203;refine (HP.out k _ hlt).mono ?_;rintro e w3 ⟨rfl,rfl⟩;rw [h2])
       go_roundw
       case rel=>exact ⟨k+1,by omega,by go_num,by rw [Hs'.out],hb⟩
       case measure=>simp [intOf];omega
     ·have hq01:(q:Int)=0\/(q:Int)=1:=(by omega);have Hs':=Lib.hid (show tkF C x (k+1)=p by rw [Hs.out,h2];simp [hq2,hqe]);clear Hs hor hI hq2 hqe
      rcases hq01 with e01|e01
      all_goals
       rw [e01] at hix;clear e01
       go_wp2_with (go_at_call 203;refine (HP.out k _ hlt).mono ?_;rintro e w3 ⟨rfl,rfl⟩;rw [h2])
       go_roundw
       case rel=>exact ⟨k+1,by omega,by go_num,by rw [Hs'.out],hb⟩
       case measure=>simp [intOf];omega
  ·obtain rfl:k=32:=by omega
   go_wp2
   go_ret
   exact ⟨rfl,hb⟩
theorem line_in7 {s u:Nat} (hs:s∈[2,3,4]) (hu:u<2*s):∀ j,j<s->∃ q:Nat,lineAt s u j=(q:Int)/\lcN s u j=q/\q<s*s:=by
 intro j hj;have h:=line_at hs hu j hj
 have h0:0<=lineAt s u j:=by
  simp at hs
  by_cases hx:(u:Int)<(s:Int)
  ·rw [lineAt_row hx]
   rcases hs with rfl|rfl|rfl<;>omega
  ·rw [lineAt_col hx]
   rcases hs with rfl|rfl|rfl<;>omega
 exact ⟨(lineAt s u j).toNat,by omega,rfl,h⟩
theorem lineTo_small {s u:Nat} (hs:s∈[2,3,4]) (hu:u<2*s):∀ i,i<s->0<=nth (lineTo s u s) i/\nth (lineTo s u s) i<((s*s:Nat):Int):=fun i hi=>by
 obtain ⟨q,e,_,hq⟩:=line_in7 hs hu i hi;rw [lineTo_nth hi,e];omega
theorem pks_line {m:List Int} {s u:Nat} {S:Int} (hm:mvd m S=true):∀ k,k<s->nth (pks m (lineTo s u s) s) k=(lv m s u k:Nat)/\lv m s u k<32:=fun k hk=>by
 refine ⟨?_,lv_lt hm k⟩;unfold pks;rw [mapTo_nth hk,lineTo_nth hk];exact lv_int hm k
theorem lineCells_line {f:Nat} {s u:Nat} {w:World} (hs:s∈[2,3,4]) (hu:u<2*s) (h:Calls Tryz.prog f #[.int .i64 s,.int .i64 u] w (RetSl w (lineL s u))):
 Calls Tryz.prog f #[.int .i64 s,.int .i64 u] w fun e w''=>∃ A3 c3,e=.returned (.slice A3 s c3)/\Ow w'' w.heap.size A3 s c3 (lineTo s u s)/\Below w.heap.size w w'':=by
 refine h.mono ?_;rintro e w'' ⟨A3,c3,rfl,ho3,hb3⟩
 have e1:lineL s u=lineTo s u s:=by
  have:lineOk s u=true:=by simp [lineOk,inr];simp at hs;omega
  simp [lineL,this]
 rw [e1,lineTo_length] at ho3;rw [e1,lineTo_length];exact ⟨A3,c3,rfl,ho3,hb3⟩
end Go.Proofs.YtkeoflnmbcdmfaaGreatDoor
