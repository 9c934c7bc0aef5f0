import Derived.Test.YtkeoflnmbcdmfaaGreatDoorMSe
import Derived.Test.YtkeoflnmbcdmfaaGreatDoorMSix
import Derived.Test.YtkeoflnmbcdmfaaGreatDoorR4P
import Derived.Test.YtkeoflnmbcdmfaaGreatDoorC3C
import Derived.Shelf.RegionOpen
import Derived.Test.YtkeoflnmbcdmfaaGreatDoorMSol
import Derived.Deep.RegionHeld3
import Derived.Test.YtkeoflnmbcdmfaaGreatDoorMFs
import Derived.Test.YtkeoflnmbcdmfaaGreatDoorMMadeA
import Derived.Laws.Append
set_option maxRecDepth 8000
namespace Go.Proofs.YtkeoflnmbcdmfaaGreatDoor
open Go.ChangeShapes Go.WideShapes Go.ChangeAt Go.RowKit
theorem waysToHold_any (A:Option Addr) (c n:Nat) (k v:Int) (Am:Option Addr) (n2 cm:Nat) (w:World) (hk:k=1\/k=2\/k=3\/k=4\/k=5):
 Calls Tryz.prog 168 #[.agg #[.int .i64 k,.slice A n c,.int .i64 v],.slice Am n2 cm] w fun e w'=>
  ∃ MB RB,e=.returned (.func (.func 183) #[] #[.pointer (some ⟨MB,0,none⟩),.pointer (some ⟨RB,0,none⟩)])/\w'.cell? ⟨MB,0,none⟩=some (.slice Am n2 cm)/\w'.cell? ⟨RB,0,none⟩=some (ofk k (rval k A n c v))/\Below w.heap.size w w':=by
 have hx0:=rbox_new w k A n c v 88;have hb0:Below w.heap.size w (w.alloc (.cells #[.int .i64 k,.slice A n c,.int .i64 v] 88)):=(Below.refl _ _).alloc (Nat.le_refl _) _
 have hs0:(w.alloc (.cells #[.int .i64 k,.slice A n c,.int .i64 v] 88)).heap.size=w.heap.size+1:=by simp
 obtain ⟨W1,hW1⟩:∃ W1,(w.alloc (.cells #[.int .i64 k,.slice A n c,.int .i64 v] 88)).alloc (.cells #[.slice Am n2 cm] 23)=W1:=⟨_,rfl⟩
 have hb1:Below w.heap.size w W1:=by rw [<- hW1];exact hb0.alloc hb0.size _
 have hs1:W1.heap.size=w.heap.size+1+1:=by rw [<- hW1];simp
 have hx1:RBox W1 w.heap.size k A n c v:=by
  rw [<- hW1];exact hx0.below (by simp) ((Below.refl _ _).alloc (Nat.le_refl _) _)
 have hm1:W1.cell? ⟨w.heap.size+1,0,none⟩=some (.slice Am n2 cm):=by
  rw [<- hW1,<-hs0];exact cell_of_row _ _ 0 _ _ (0,0) (heap_alloc_new _ _)
 obtain ⟨a0,a1,a2⟩:=id hx1;obtain ⟨x,hx⟩:∃ x,rval k A n c v=x:=⟨_,rfl⟩
 obtain ⟨T,hT⟩:∃ T,ofk k (rval k A n c v)=.iface T x:=by
  rw [hx]
  rcases hk with rfl|rfl|rfl|rfl|rfl<;>exact ⟨_,rfl⟩
 have HK:=ofKind_any A c n k v W1;rw [hT] at HK ⊢;have HK:=Lib.hid HK;clear hx hT;have Hs:=Lib.hid hs1;clear hs1 hs0 hb0
 go_enter Tryz.func168,Tryz.ntmps168
 go_wp2_with (go_at_call 175;refine HK.out.mono ?_;rintro e w3 ⟨rfl,hb3⟩;have hm3:=(hb3.cell (p:=⟨w.heap.size+1,0,none⟩) (show w.heap.size+1<_ by rw [Hs.out];omega)).trans hm1)
 go_ret
 have hb4:Below w3.heap.size w3 (w3.alloc (.cells #[.iface T x] 174)):=(Below.refl _ _).alloc (Nat.le_refl _) _;exact ⟨w.heap.size+1,w3.heap.size,rfl,(hb4.cell (p:=⟨w.heap.size+1,0,none⟩) (cell_lt hm3)).trans hm3,cell_of_row _ _ 0 _ _ (0,0) (heap_alloc_new _ _),step (step hb1 hb3) hb4⟩
end Go.Proofs.YtkeoflnmbcdmfaaGreatDoor
set_option maxRecDepth 8000
namespace Go.Proofs.YtkeoflnmbcdmfaaGreatDoor
open Go.ChangeShapes Go.WideShapes Go.ChangeAt Go.RowKit
theorem emN_lt {vs:List Int} {s j:Nat} (hs:s∈[2,3,4]) (h0:0<=nth vs j) (h4:nth vs j<=4):emN vs s j<32:=by
 unfold emN
 split
 ·have:=(all_even s hs).2;omega
 ·have:(nth vs j).toNat<5:=by omega
  exact Nat.pow_lt_pow_right (n:=5) (by omega) this
theorem emL_len_ {vs:List Int} {s n:Nat} (h:vs.length=n):(emL vs s).length=n:=by unfold emL;rw [mapTo_length,h]
theorem emL_at {vs:List Int} {s n k:Nat} (hl:vs.length=n) (hk:k<n):nth (emL vs s) k=((emN vs s k:Nat):Int):=by
 unfold emL;rw [mapTo_nth (by omega)]
 simp [emG]
theorem openMasks_any (A:Option Addr) (c n B:Nat) (vs:List Int) (s:Nat) (w:World) (h:Rd w B A n vs) (hB:B<=w.heap.size) (n16:n<=16) (hs:s∈[2,3,4]) (hsm:∀ i,i<n->0<=nth vs i/\nth vs i<=4):
 Calls Tryz.prog 82 #[.slice A n c,.int .i64 s] w (RetSl w (emL vs s)):=by
 obtain ⟨i0,hi,hz0,hz1,hz2⟩:=info_parts int_info;have hlen:=h.1;have Hpm:=Lib.hid (fun k (hk:k<n)=>emL_at (s:=s) hlen hk);have Hsm:=Lib.hid hsm;have HAV:=Lib.hid (fun w'=>allValues_any s hs w');have Hall:Hid (∀ k,k<n->nth vs k=0->((2^(s+1)-2:Nat):Int)=nth (emL vs s) k):=Lib.hid (fun k hk hz=>by rw [Hpm.out k hk];unfold emN;rw [if_pos hz]);have Hl:=Lib.hid (emL_len_ (s:=s) hlen);clear hlen hsm;obtain ⟨av,hav⟩:∃ av,av=2^(s+1)-2:=⟨_,rfl⟩;rw [<- hav] at HAV Hall;clear hav
 go_enter Tryz.func82,Tryz.ntmps82
 go_wp2_with (refine wpList_make_full _ rfl (.tmp 9) (.tmp 9) 23 rfl w.heap.size 3 i0 (.int .i64 0) 1 Tryz.underlying23 hi hz0 hz1 .i64 .i64 n n n rfl rfl rfl rfl (by rw [hz2];omega) (by simp only [maxLen];omega) (Nat.le_refl _) ?_;intro w1 hown hgr)
 have ho1:=made_part (emL vs s) hown;have hb1:=made_below hgr (Nat.le_refl w.heap.size);clear hown hgr hz0 hz1 hz2 hi
 go_loopw [13] (fun i wr=>∃ k:Nat,k<=n/\i=.int .i64 k/\Ow wr w.heap.size (some ⟨w.heap.size,0,none⟩) n n (part (emL vs s) k n)/\Below w.heap.size w wr) (fun i _=>n-(intOf i).toNat)
 case atStart=>exact ⟨0,Nat.zero_le _,rfl,ho1,hb1⟩
 case round=>
  obtain ⟨k,hk,rfl,ho,hb⟩:=hrel
  by_cases hlt:k<n
  ·obtain ⟨b,off,rfl,hbB,hck⟩:=(h.below (hb.mono hB)).at_ hlt;obtain ⟨x0,x4⟩:=Hsm.out k hlt;obtain ⟨v,hv⟩:=Int.eq_ofNat_of_zero_le x0;rw [hv] at hck x4;have hst:=(World.ownsRow.stored ho k (.int .i64 (nth (emL vs s) k))).1;rw [part_set] at hst;have Hst:=Lib.hid hst;clear hst;obtain ⟨hold,hfr⟩:=ho.cell hlt
   by_cases hz:v=0
   ·subst hz;have Hg:=Lib.hid (Hall.out k hlt (by rw [hv];rfl));clear hv x0 x4
    go_wp2_with (go_at_call 133;refine (HAV.out _).mono ?_;rintro e w' ⟨rfl,rfl⟩;rw [Hg.out])
    go_roundw
    case rel=>exact ⟨k+1,by omega,by go_num,Hst.out,hb.setCell (p:=(⟨w.heap.size,k,none⟩:Addr)) (Nat.le_refl _) _⟩
    case measure=>simp [intOf];omega
   ·have Hg:=Lib.hid (show ((2^v:Nat):Int)=nth (emL vs s) k by
     rw [Hpm.out k hlt];unfold emN;rw [hv,if_neg (by omega),Int.toNat_natCast])
    have hz1:((v:Int)==0)=false:=(by simp;omega);have Hpw:=Lib.hid (two_pow_nat v (by omega));clear hz hv
    go_wp2
    go_roundw
    case rel=>exact ⟨k+1,by omega,by go_num,by rw [show (wrap64 (2^v))=nth (emL vs s) k from Hpw.out.trans Hg.out];exact Hst.out,hb.setCell (p:=(⟨w.heap.size,k,none⟩:Addr)) (Nat.le_refl _) _⟩
    case measure=>simp [intOf];omega
  ·obtain rfl:k=n:=by omega
   have hp:part (emL vs s) k k=emL vs s:=part_all' Hl.out;rw [hp] at ho
   go_wp2
   go_ret
   exact retSl_mk ho hb
end Go.Proofs.YtkeoflnmbcdmfaaGreatDoor
set_option maxRecDepth 8000
namespace Go.Proofs.YtkeoflnmbcdmfaaGreatDoor
open Go.ChangeShapes Go.WideShapes Go.ChangeAt Go.RowKit
theorem range_skip {P:Program} (m:Nat) {g:Operand} {p:Nat} {body:Code} {Q:Exit->Act->World->Prop} {a:Act} {w:World}
 {gf:Nat} {lb:Array Value} (hg:a.eval g=.func (.func gf) #[] lb) (eg:∀ args w,(callFunc gf args).run P w=.ok (.enter gf args) w)
 {Base:World->Prop} {ways:List (List Int)} (hseq:SeqC P gf lb Base ways)
 (I:List (List Int)->World->Prop) (Ix:Code->World->Prop) (hIb:∀ pre X,I pre X->Base X)
 (hI:∀ pre X Y,I pre X->Below w.heap.size X Y->I pre Y) (hIx:∀ c X Y,Ix c X->Below w.heap.size X Y->Ix c Y) (h0:I [] w)
 (hbody:∀ (l:Nat) (pre:List (List Int)) (x:List Int) (X:World) (b n c:Nat),I pre X->x∈ways->w.heap.size<=b->Rd X X.heap.size (some ⟨b,0,none⟩) n x->
   body.wpIn (Fence.wide.inRound l) m P (midPost w.heap.size I Ix (pre++[x]) X) { tmps:=a.tmps.setIfInBounds p (.slice (some ⟨b,0,none⟩) n c),defers:=[] } X)
 (hdone:∀ (D:Nat) (W:World),w.heap.size<=D->I ways W->W.heap[D]? =some (.deferred (some []))->Q .normal { a with defers:={ target:=.collected D,args:= #[] }::a.defers } W)
 (hstop:∀ (D:Nat) (c:Code) (W:World),w.heap.size<=D->Ix c W->W.heap[D]? =some (.deferred (some []))->c.wpIn Fence.wide m P Q { a with defers:={ target:=.collected D,args:= #[] }::a.defers } W):
 (Code.rangeFunc g #[p] .skip body).wpIn Fence.wide m P Q a w:=
 range_own m hg eg rfl hseq I Ix hIb hI hIx h0 (fun v=>{ tmps:=a.tmps.setIfInBounds p v,defers:=[] }) (fun l v W K hK=>by
  refine wpIn_skip ?_
  simpa [Exit.then] using hK) hbody hdone hstop
theorem range_two {P:Program} (m:Nat) {g:Operand} {p q:Nat} {assign body:Code} {Q:Exit->Act->World->Prop} {a:Act} {w:World}
 {gf:Nat} {lb:Array Value} (hg:a.eval g=.func (.func gf) #[] lb) (eg:∀ args w,(callFunc gf args).run P w=.ok (.enter gf args) w)
 {Base:World->Prop} {ways:List (List Int)} (hseq:SeqC P gf lb Base ways)
 (I:List (List Int)->World->Prop) (Ix:Code->World->Prop) (hIb:∀ pre X,I pre X->Base X)
 (hI:∀ pre X Y,I pre X->Below w.heap.size X Y->I pre Y) (hIx:∀ c X Y,Ix c X->Below w.heap.size X Y->Ix c Y) (h0:I [] w)
 (hassign:∀ (l:Nat) (v:Value) (W:World) (K:Act->World->Prop),K { tmps:=(a.tmps.setIfInBounds p v).setIfInBounds q v,defers:=[] } W->
   assign.wpIn (Fence.wide.inRound l) m P (Exit.then K (fun _ _ _=>False)) { tmps:=a.tmps.setIfInBounds p v,defers:=[] } W)
 (hbody:∀ (l:Nat) (pre:List (List Int)) (x:List Int) (X:World) (b n c:Nat),I pre X->x∈ways->w.heap.size<=b->Rd X X.heap.size (some ⟨b,0,none⟩) n x->
   body.wpIn (Fence.wide.inRound l) m P (midPost w.heap.size I Ix (pre++[x]) X) { tmps:=(a.tmps.setIfInBounds p (.slice (some ⟨b,0,none⟩) n c)).setIfInBounds q (.slice (some ⟨b,0,none⟩) n c),defers:=[] } X)
 (hdone:∀ (D:Nat) (W:World),w.heap.size<=D->I ways W->W.heap[D]? =some (.deferred (some []))->Q .normal { a with defers:={ target:=.collected D,args:= #[] }::a.defers } W)
 (hstop:∀ (D:Nat) (c:Code) (W:World),w.heap.size<=D->Ix c W->W.heap[D]? =some (.deferred (some []))->c.wpIn Fence.wide m P Q { a with defers:={ target:=.collected D,args:= #[] }::a.defers } W):
 (Code.rangeFunc g #[p] assign body).wpIn Fence.wide m P Q a w:=
 range_own m hg eg rfl hseq I Ix hIb hI hIx h0 (fun v=>{ tmps:=(a.tmps.setIfInBounds p v).setIfInBounds q v,defers:=[] }) (fun l v W K hK=>by
  simpa using hassign l v W K hK) hbody hdone hstop
end Go.Proofs.YtkeoflnmbcdmfaaGreatDoor
set_option maxRecDepth 8000
namespace Go.Proofs.YtkeoflnmbcdmfaaGreatDoor
open Go.ChangeShapes Go.WideShapes Go.ChangeAt Go.RowKit Go.Shelf
attribute [local go_sem] Oper.semAt_some
theorem part_put (xs:List Int) (k n:Nat) (hk:k<n):(part xs k n).set k (nth xs k)=part xs (k+1) n:=by
 apply ext_nth (by simp [part_length])
 intro j hj;rw [List.length_set,part_length] at hj;rw [part_nth _ _ _ _ hj]
 by_cases e:j=k
 ·subst e;rw [nth_set_same (by rw [part_length];exact hk),if_pos (by omega)]
 ·rw [nth_set_ne (fun e'=>e e'.symm),part_nth _ _ _ _ hj]
  by_cases h:j<k
  ·rw [if_pos h,if_pos (by omega)]
  ·rw [if_neg h,if_neg (by omega)]
theorem part_zero_ (xs:List Int) (n:Nat):part xs 0 n=zeros n:=by
 apply ext_nth (by simp [part_length,zeros])
 intro j hj;rw [part_length] at hj;rw [part_nth _ _ _ _ hj,if_neg (by omega)]
 simp [zeros,nth,List.getD_eq_getElem?_getD,hj]
set_option maxHeartbeats 1000000 in
theorem possible_any (A:Option Addr) (c nc:Nat) (k v:Int) (Av:Option Addr) (cv n B:Nat) (vs:List Int) (s:Nat) (w:World) (hv:Rd w B Av n vs) (hB:B<=w.heap.size) (n1:1<=n) (n4:n<=4) (hs:s∈[2,3,4]) (hsm:∀ i,i<n->0<=nth vs i/\nth vs i<=4)
 (hk:k=1\/k=2\/k=3\/k=4\/k=5) (h2:k=1\/k=2\/k=3\/2<=n):
 Calls Tryz.prog 180 #[.agg #[.int .i64 k,.slice A nc c,.int .i64 v],.slice Av n cv,.int .i64 s] w fun e w'=>e=.returned (.bool (!((allW (emL vs s) n []).filter (holdsB k v)).isEmpty))/\Below w.heap.size w w':=by
 have hlen:=hv.1
 have hpm:∀ i,i<n->nth (emL vs s) i=((emN vs s i:Nat):Int):=fun i hi=>by
  unfold emL;rw [mapTo_nth (by omega)]
  simp [emG]
 have hms:∀ i,i<n->0<=nth (emL vs s) i/\nth (emL vs s) i<32:=fun i hi=>by
  have:=emN_lt (j:=i) hs (hsm i hi).1 (hsm i hi).2;rw [hpm i hi];omega
 obtain ⟨W1,hW1⟩:∃ W1,w.alloc (.cells #[.int .i64 k,.slice A nc c,.int .i64 v] 88)=W1:=⟨_,rfl⟩;have hx1:=rbox_new w k A nc c v 88;rw [hW1] at hx1
 have hb1:Below w.heap.size w W1:=by rw [<- hW1];exact (Below.refl _ _).alloc (Nat.le_refl _) _
 have hs1:W1.heap.size=w.heap.size+1:=by rw [<- hW1];simp
 obtain ⟨W2,hW2⟩:∃ W2,W1.alloc (.cells #[.bool false] 4)=W2:=⟨_,rfl⟩
 have hb2:Below W1.heap.size W1 W2:=by rw [<- hW2];exact (Below.refl _ _).alloc (Nat.le_refl _) _
 have hs2:W2.heap.size=w.heap.size+1+1:=by rw [<- hW2];simp [hs1]
 have hx2:=hx1.below (by omega) hb2
 have hc2:W2.heap[w.heap.size+1]? =some (.cells #[.bool false] 4):=by rw [<- hW2,<-hs1];exact heap_alloc_new _ _
 have hbW2:Below w.heap.size w W2:=hb1.trans (hb2.mono (by omega));have HB2:=Lib.hid hbW2;have HX2:=Lib.hid hx2;have HC2:=Lib.hid hc2;have HOM:=Lib.hid (fun (w':World) (hb:Below w.heap.size w w')=>openMasks_any Av cv n B vs s w' (hv.below (hb.mono hB)) (Nat.le_trans hB hb.size) (by omega) hs hsm);have Hel:=Lib.hid (emL_len_ (s:=s) hlen);have HV:=Lib.hid (fun (w':World) (hb:Below w.heap.size w w')=>hv.below (hb.mono hB));have HPM:=Lib.hid hpm;have HMS:=Lib.hid hms;have HLEN:=Lib.hid hlen;have HSM:=Lib.hid hsm;have HS2:=Lib.hid hs2;clear hbW2 hx2 hc2 hx1 hb1 hb2 hpm hms hlen hsm
 refine (callsIn_wide (n:=9)).1 ?_;refine callsIn_of_wp_marks Tryz.func180 rfl trivial ?_ rfl;simp only [Tryz.ntmps180,List.size_toArray,List.length_cons,List.length_nil,Nat.reduceAdd,Nat.reduceSub,Array.replicate_succ,Array.replicate_zero,List.push_toArray,List.append_toArray,List.nil_append,List.cons_append]
 have hmx:Tryz.prog.follows .mixedOrders=true:=by kernel_rfl
 obtain ⟨x0,x1,x2⟩:=id HX2.out
 gi_wp2
 first|(gi_region_with_o (first
  |((try refine ⟨trivial,?_⟩);gi_at_call 82;refine (callsIn_wide.2 (HOM.out _ (by first|exact HB2.out|exact HB2.out.drew))).mono ?_;rintro e w3 ⟨A3,c3,rfl,ho3,hb3⟩;rw [Hel.out] at ho3 ⊢;have hb3':Below W2.heap.size W2 w3:=(by first|exact hb3|exact ((Below.refl _ _).drew).trans hb3);obtain ⟨y0,y1,y2⟩:=HX2.out.below (by rw [HS2.out];omega) hb3')
  |((try refine ⟨trivial,?_⟩);gi_at_call 168;refine (callsIn_wide.2 (waysToHold_any A c nc k v A3 n c3 _ hk)).mono ?_;rintro e w5 ⟨MB,RB,rfl,hmb,hrb,hb5⟩)))|fail
 all_goals
  gi_wp2
  have hbw:Below w.heap.size w w3:=step HB2.out hb3'
  have hl5:w.heap.size+1<w5.heap.size:=by have:=hb5.size;have:=hb3'.size;omega
  have hrow5:w5.heap[w.heap.size+1]? =some (.cells #[.bool false] 4):=(hb5.block _ (by have:=hb3'.size;omega)).trans ((hb3'.block _ (by omega)).trans HC2.out);have hbase:WBase MB RB w5.heap.size k A nc c v A3 n c3 (emL vs s) w5:=⟨hmb,hrb,?mask,Nat.le_refl _⟩
  case mask=>
   have h5:=(ho3.below hb5).rd
   exact ⟨emL_len_ HLEN.out,fun hn=>by
    obtain ⟨b,off,e,hl,hc⟩:=h5.2 hn
    exact ⟨b,off,e,cell_lt (hc 0 hn),hc⟩⟩
  have hMB:=cell_lt hmb;have hRB:=cell_lt hrb;have HBW:=Lib.hid (hbw.trans (hb5.mono (by have:=hbw.size;omega)))
  refine range_skip 9 (by rfl) (enters_of Tryz.func183 (by kernel_rfl) rfl) (ways_seq MB RB w5.heap.size k A nc c v A3 n c3 (emL vs s) n1 n4 HMS.out hk h2)
   (fun pre X=>pre=[]/\WBase MB RB w5.heap.size k A nc c v A3 n c3 (emL vs s) X/\X.heap[w.heap.size+1]? =some (.cells #[.bool false] 4)/\Below w.heap.size w X)
   (fun cc X=>cc=.ret/\((allW (emL vs s) n []).filter (holdsB k v)).isEmpty=false/\X.heap[w.heap.size+1]? =some (.cells #[.bool true] 4)/\Below w.heap.size w X)
   (fun pre X h=>h.2.1)
   (fun pre X Y h hb=>⟨h.1,h.2.1.below hb (by omega) (by omega) (by omega),(hb.block _ hl5).trans h.2.2.1,h.2.2.2.trans (hb.mono (by omega))⟩)
   (fun cc X Y h hb=>⟨h.1,h.2.1,(hb.block _ hl5).trans h.2.2.1,h.2.2.2.trans (hb.mono (by omega))⟩)
   ⟨rfl,hbase,hrow5,HBW.out⟩ ?body ?done ?stop
  case body=>
   rintro l pre x X b n' c' ⟨rfl,hbX,hrX,hBX⟩ hx hbb hrd
   have hne:((allW (emL vs s) n []).filter (holdsB k v)).isEmpty=false:=by
    cases e:(allW (emL vs s) n []).filter (holdsB k v)
    ·rw [e] at hx;cases hx
    ·rfl
   clear hx;simp only [List.setIfInBounds_toArray,List.set_cons_zero,List.set_cons_succ];have hcX:=cell_of_row _ _ 0 _ _ (0,0) hrX;have hfX:=frozen_of_row _ _ 0 _ _ hrX
   gi_wp2
   exact ⟨Mid.setCell _ _ _ _ _ hl5,rfl,heap_setCell_same X (w.heap.size+1) 0 _ _ (.bool true) hrX,hBX.setCell (p:=⟨w.heap.size+1,0,none⟩) (by show w.heap.size<=w.heap.size+1;omega) _⟩
  case done=>
   rintro D W hD ⟨he,hbX,hrX,hBX⟩ hK;have hcX:=cell_of_row _ _ 0 _ _ (0,0) hrX;have hfX:=frozen_of_row _ _ 0 _ _ hrX
   gi_wp2
   have hK2:(W.setCell ⟨w.heap.size+1,0,none⟩ (.bool false)).heap[D]? =some (.deferred (some [])):=(heap_setCell_other W ⟨w.heap.size+1,0,none⟩ D _ (fun e=>by dsimp only at e;omega)).trans hK;refine ⟨by simp,.inl ⟨_,_,rfl,run_takeDeferred hK2,?_⟩⟩;have hrow6:=(World.putObj_heap_other (o:=.deferred none) (by omega:w.heap.size+1≠D)).trans (heap_setCell_same W (w.heap.size+1) 0 _ _ (.bool false) hrX);have hc6:=cell_of_row _ _ 0 _ _ (0,0) hrow6;refine ⟨.bool false,?_,rfl,(hBX.setCell (p:=⟨w.heap.size+1,0,none⟩) (by show w.heap.size<=w.heap.size+1;omega) _).trans (below_put _ (by omega) hK2)⟩
   simp at hc6
   simp [results,Tryz.f180,go_sem,hc6]
  case stop=>
   rintro D cc W hD ⟨rfl,hne,hrX,hBX⟩ hK
   gi_wp2
   refine ⟨by simp,.inl ⟨_,_,rfl,run_takeDeferred hK,?_⟩⟩;have hrow6:=(World.putObj_heap_other (o:=.deferred none) (by omega:w.heap.size+1≠D)).trans hrX;have hc6:=cell_of_row _ _ 0 _ _ (0,0) hrow6;refine ⟨.bool true,?_,rfl,hBX.trans (below_put _ (by omega) hK)⟩
   simp at hc6
   simp [results,Tryz.f180,go_sem,hc6]
end Go.Proofs.YtkeoflnmbcdmfaaGreatDoor
set_option maxRecDepth 8000
namespace Go.Proofs.YtkeoflnmbcdmfaaGreatDoor
open Go.ChangeShapes Go.WideShapes Go.ChangeAt Go.RowKit
end Go.Proofs.YtkeoflnmbcdmfaaGreatDoor
set_option maxRecDepth 8000
namespace Go.Proofs.YtkeoflnmbcdmfaaGreatDoor
open Go.ChangeShapes Go.WideShapes Go.ChangeAt Go.RowKit
def agreeB (gi g:List Int) (n:Nat):Bool:=(List.range n).all fun i=>giveOk gi g i
theorem agree_no {gi g:List Int} {n i:Nat} (hi:i<n) (h:giveOk gi g i=false):agreeB gi g n=false:=by
 cases e:agreeB gi g n
 ·rfl
 ·have:=List.all_eq_true.1 e i (List.mem_range.2 (by omega));rw [h] at this;cases this
theorem agree_yes {gi g:List Int} {n:Nat} (h:∀ i,i<n->giveOk gi g i=true):agreeB gi g n=true:=List.all_eq_true.2 (fun i hi=>h i (by rw [List.mem_range] at hi;omega))
set_option maxHeartbeats 1000000 in
theorem agrees_any (s:Int) (Ag:Option Addr) (n cg Bg:Nat) (gi:List Int) (Ar:Option Addr) (nr cr:Nat) (A:Option Addr) (c B:Nat) (g:List Int) (w:World) (hgi:Rd w Bg Ag n gi) (hBg:Bg<=w.heap.size) (hg:Rd w B A n g) (hB:B<=w.heap.size) (hm:n<=1099511627776)
 (hgi0:∀ i,i<n->0<=nth gi i) (hg0:∀ i,i<n->0<=nth g i):
 Calls Tryz.prog 157 #[.agg #[.int .i64 s,.slice Ag n cg,.slice Ar nr cr],.slice A n c] w fun e w'=>e=.returned (.bool (agreeB gi g n))/\Below w.heap.size w w':=by
 have hx0:=pbox_new w s Ag n cg Ar nr cr 26;have hb0:Below w.heap.size w (w.alloc (.cells #[.int .i64 s,.slice Ag n cg,.slice Ar nr cr] 26)):=(Below.refl _ _).alloc (Nat.le_refl _) _;obtain ⟨z0,z1,z2⟩:=id hx0;have h1:=hgi.below (hb0.mono hBg);have h2:=hg.below (hb0.mono hB);have HGI:=Lib.hid hgi0;have HG:=Lib.hid hg0;clear hgi hg hgi0 hg0
 go_enter Tryz.func157,Tryz.ntmps157
 go_wp2
 go_loop [10] (fun i=>∃ u:Nat,u<=n/\i=.int .i64 u/\Hid (∀ j,j<u->giveOk gi g j=true)) (fun i=>n-(intOf i).toNat)
 case atStart=>exact ⟨0,Nat.zero_le _,rfl,Lib.hid (fun j hj=>absurd hj (by omega))⟩
 case round=>
  obtain ⟨u,hu,rfl,hall⟩:=hrel
  by_cases hlt:u<n
  ·obtain ⟨b,off,rfl,hbB,hc1⟩:=h1.at_ hlt;obtain ⟨b2,off2,rfl,hbB2,hc2⟩:=h2.at_ hlt;have hin:(u:Int)<(n:Int):=(by omega);obtain ⟨x,hx⟩:=Int.eq_ofNat_of_zero_le (HGI.out u hlt);obtain ⟨y,hy⟩:=Int.eq_ofNat_of_zero_le (HG.out u hlt)
   have hok:giveOk gi g u= !(decide (0<x)&&decide (0<y)&&(y != x)):=by
    unfold giveOk;rw [hx,hy];simp only [Int.natCast_pos]
    congr 2
    rw [Bool.eq_iff_iff,bne_iff_ne,bne_iff_ne];omega
   rw [hx] at hc1;rw [hy] at hc2;clear hx hy
   have hnext:giveOk gi g u=true->Hid (∀ j,j<u+1->giveOk gi g j=true):=fun h=>Lib.hid (fun j hj=>by
    by_cases e:j=u
    ·subst e;exact h
    ·exact hall.out j (by omega))
   by_cases hx0:x=0
   ·have HN:=hnext (by rw [hok,hx0];simp);have hxz:((x:Int) != 0)=false:=(by simp [hx0]);clear hok hnext hx0
    go_wp2
    go_round
    case rel=>exact ⟨u+1,hlt,by go_num,HN⟩
    case measure=>simp [intOf];omega
   ·have hxz:((x:Int) != 0)=true:=(by simp;omega)
    by_cases hy0:y=0
    ·have HN:=hnext (by rw [hok,hy0];simp);have hyz:((y:Int) != 0)=false:=(by simp [hy0]);clear hok hnext hy0
     go_wp2
     go_round
     case rel=>exact ⟨u+1,hlt,by go_num,HN⟩
     case measure=>simp [intOf];omega
    ·have hyz:((y:Int) != 0)=true:=(by simp;omega)
     by_cases he:y=x
     ·have HN:=hnext (by rw [hok,he];simp);have hyx:((y:Int) != (x:Int))=false:=(by simp [he]);clear hok hnext
      go_wp2
      go_round
      case rel=>exact ⟨u+1,hlt,by go_num,HN⟩
      case measure=>simp [intOf];omega
     ·have HL:=Lib.hid (agree_no hlt (show giveOk gi g u=false by
       rw [hok,decide_eq_true (by omega),decide_eq_true (by omega)]
       simp [he]))
      have hyx:((y:Int) != (x:Int))=true:=(by simp;omega);clear hok hnext
      go_wp2
      go_ret
      exact ⟨by rw [HL.out];rfl,hb0⟩
  ·obtain rfl:u=n:=by omega
   have HL:=Lib.hid (agree_yes hall.out)
   go_wp2
   go_ret
   exact ⟨by rw [HL.out];rfl,hb0⟩
end Go.Proofs.YtkeoflnmbcdmfaaGreatDoor
set_option maxRecDepth 8000
namespace Go.Proofs.YtkeoflnmbcdmfaaGreatDoor
open Go.ChangeShapes Go.WideShapes Go.ChangeAt Go.RowKit
def possB (s:Int) (g:List Int) (rs:List RuleM):Bool:=(List.range rs.length).all fun i=>rpR s g (rat rs i)
set_option maxHeartbeats 1000000 in
theorem rulesPossible_any (s:Nat) (Ag:Option Addr) (ng cg:Nat) (Ar:Option Addr) (nr cr Br:Nat) (rs:List RuleM) (A:Option Addr) (n c B:Nat) (g:List Int) (w:World) (hr:RdRc w Br Ar nr rs) (hBr:Br<=w.heap.size) (hmr:nr<=1099511627776) (hg:Rd w B A n g) (hB:B<=w.heap.size) (hs:s∈[2,3,4]) (hgv:gv g s=true) (hall0:∀ i,i<nr->rvR s (rat rs i)=true):
 Calls Tryz.prog 159 #[.agg #[.int .i64 s,.slice Ag ng cg,.slice Ar nr cr],.slice A n c] w fun e w'=>e=.returned (.bool (possB s g rs))/\Below w.heap.size w w':=by
 have hlen:=Lib.hid hr.1;have hx0:=pbox_new w s Ag ng cg Ar nr cr 26;have hb0:Below w.heap.size w (w.alloc (.cells #[.int .i64 s,.slice Ag ng cg,.slice Ar nr cr] 26)):=(Below.refl _ _).alloc (Nat.le_refl _) _
 have hs0:w.heap.size+1<=(w.alloc (.cells #[.int .i64 s,.slice Ag ng cg,.slice Ar nr cr] 26)).heap.size:=by simp
 obtain ⟨z0,z1,z2⟩:=id hx0;have HR:=Lib.hid (fun (w':World) (hb:Below w.heap.size w w')=>hr.below (hb.mono hBr));have HA:=Lib.hid hall0;clear hall0
 go_enter Tryz.func159,Tryz.ntmps159
 go_wp2
 go_loopw [10] (fun i wr=>∃ u:Nat,u<=nr/\i=.int .i64 u/\Hid (allR (rpR s g) rs u)/\PBox wr w.heap.size s Ag ng cg Ar nr cr/\Below w.heap.size w wr/\w.heap.size+1<=wr.heap.size) (fun i _=>nr-(intOf i).toNat)
 case atStart=>exact ⟨0,Nat.zero_le _,rfl,Lib.hid (fun j hj=>absurd hj (by omega)),hx0,hb0,hs0⟩
 case round=>
  obtain ⟨u,hu,rfl,hall,hx,hb,hsw⟩:=hrel;obtain ⟨c0,c1,c2⟩:=id hx
  by_cases hlt:u<nr
  ·obtain ⟨b,off,rfl,hbB,hcc⟩:=(HR.out _ hb).2 (by omega);obtain ⟨A',c',r0,r1,r2,r3,r4,r5⟩:=hcc u hlt;have hv0:=HA.out u hlt;obtain ⟨rk,hrk⟩:∃ x,x=(rat rs u).k:=⟨_,rfl⟩;obtain ⟨rx,hrx⟩:∃ x,x=(rat rs u).xs:=⟨_,rfl⟩;obtain ⟨rvv,hrv⟩:∃ x,x=(rat rs u).v:=⟨_,rfl⟩;have hv:rv rk rx rvv s=true:=(by rw [hrk,hrx,hrv];exact hv0);have hrr:rpR s g (rat rs u)=rpB rk rx rvv g s:=(by simp only [rpR,hrk,hrx,hrv]);rw [<- hrk] at r0;rw [<- hrx] at r1 r3 r4 r5;rw [<- hrv] at r2;obtain ⟨_,⟨hn1,hn4⟩,hk2,_⟩:=rv_facts rfl hv;obtain ⟨hsm,hxin⟩:=pks_small rfl hv hgv
   rw [hg.1] at hxin;have hin:(u:Int)<(nr:Int):=(by omega);have hy:=rbox_new wr rk A' rx.length c' rvv 88;have hb1:Below wr.heap.size wr (wr.alloc (.cells #[.int .i64 rk,.slice A' rx.length c',.int .i64 rvv] 88)):=(Below.refl _ _).alloc (Nat.le_refl _) _;obtain ⟨y0,y1,y2⟩:=id hy;have hx1:=hx.below (Nat.lt_of_lt_of_le (Nat.lt_succ_self _) hsw) hb1;obtain ⟨d0,d1,d2⟩:=id hx1;have hbw:=hb.trans (hb1.mono hb.size);have hs1:w.heap.size<(wr.alloc (.cells #[.int .i64 rk,.slice A' rx.length c',.int .i64 rvv] 88)).heap.size:=(by simp;omega);have hs2:wr.heap.size<(wr.alloc (.cells #[.int .i64 rk,.slice A' rx.length c',.int .i64 rvv] 88)).heap.size:=(by simp)
   obtain ⟨W,hW⟩:∃ W,wr.alloc (.cells #[.int .i64 rk,.slice A' rx.length c',.int .i64 rvv] 88)=W:=⟨_,rfl⟩;rw [hW] at hy y0 y1 y2 hx1 d0 d1 d2 hbw hs1 hs2
   have HS:Hid (∀ w',Below W.heap.size W w'->w'.cell? ⟨wr.heap.size,0,none⟩=some (.int .i64 rk)/\w'.cell? ⟨wr.heap.size,1,none⟩=some (.slice A' rx.length c')/\w'.cell? ⟨wr.heap.size,2,none⟩=some (.int .i64 rvv)/\w'.cell? ⟨w.heap.size,0,none⟩=some (.int .i64 s)):=
    Lib.hid (fun w' hb=>by
     obtain ⟨e0,e1,e2⟩:=hy.below hs2 hb
     exact ⟨e0,e1,e2,(hx1.below hs1 hb).1⟩)
   have HPK:=Lib.hid (fun w' (hb2:Below W.heap.size W w')=>implPick A c n B g A' c' rx.length Br rx w' (hg.below ((hbw.trans (hb2.mono hbw.size)).mono hB)) ((r3.below (by rw [<- hW];exact hb1.mono (Nat.le_trans hBr hb.size))).below (hb2.mono (Nat.le_trans hBr hbw.size))) (Nat.le_trans (Nat.le_trans hB hbw.size) hb2.size) (Nat.le_trans (Nat.le_trans hBr hbw.size) hb2.size) r4 hxin);have Hpl:=Lib.hid (pks_length g rx rx.length);have Hsm:=Lib.hid hsm;have Hk:=Lib.hid (rv_kind hv);have Hk2:=Lib.hid (show rk=1\/rk=2\/rk=3\/2<=rx.length from hk2);have HRP:=Lib.hid (rp_ways rfl hv hgv hs)
   obtain ⟨bb,hbb⟩:∃ bb,(!((allW (emL (pks g rx rx.length) s) rx.length []).filter (holdsB rk rvv)).isEmpty)=bb:=⟨_,rfl⟩;rw [hbb] at HRP;have Hbb:=Lib.hid hbb;have Hb:=Lib.hid hb;have Hbw:=Lib.hid hbw;have hx1':=Lib.hid hx1;clear hrk hrx hrv hcc hsm hxin hk2 hbb hv0 hx hb1;cases bb
   ·have HL:=Lib.hid (show possB s g rs=false from not_all_rat hlen.out hlt (hrr.trans HRP.out));clear hrr
    go_wp2_with fail
    go_region_held3 (fun w'=>w'.cell? ⟨wr.heap.size,0,none⟩=some (.int .i64 rk)/\w'.cell? ⟨wr.heap.size,1,none⟩=some (.slice A' rx.length c')/\w'.cell? ⟨wr.heap.size,2,none⟩=some (.int .i64 rvv)/\w'.cell? ⟨w.heap.size,0,none⟩=some (.int .i64 s))
     (first|go_keep|exact HS.out _ hb3|exact HS.out _ hb4)
     ((first|(go_simp;go_at_call 181;refine (HPK.out _ ((Below.refl _ _).drew)).mono ?_;rintro e w3 ⟨A3,c3,rfl,ho3,hb3'⟩;rw [Hpl.out] at ho3 ⊢;have hb3:Below W.heap.size W w3:=((Below.refl _ _).drew).trans hb3')|(go_simp;go_at_call 180;refine (possible_any _ _ _ _ _ _ _ _ _ _ _ _ ho3.rd (Nat.le_refl _) hn1 hn4 hs (fun i hi=>Hsm.out i hi) Hk.out Hk2.out).mono ?_;rw [Hbb.out];rintro e w4 ⟨rfl,hb4'⟩;have hb4:=step hb3 hb4')))
    go_wp2
    go_ret
    exact ⟨by rw [HL.out];rfl,step Hbw.out hb4⟩
   ·have hall2:=Lib.hid (show allR (rpR s g) rs (u+1) from fun i hi=>by
     by_cases e:i=u
     ·subst e;exact hrr.trans HRP.out
     ·exact hall.out i (by omega))
    have Hlt:=Lib.hid hlt;clear hrr
    go_wp2_with fail
    go_region_held3 (fun w'=>w'.cell? ⟨wr.heap.size,0,none⟩=some (.int .i64 rk)/\w'.cell? ⟨wr.heap.size,1,none⟩=some (.slice A' rx.length c')/\w'.cell? ⟨wr.heap.size,2,none⟩=some (.int .i64 rvv)/\w'.cell? ⟨w.heap.size,0,none⟩=some (.int .i64 s))
     (first|go_keep|exact HS.out _ hb3|exact HS.out _ hb4)
     ((first|(go_simp;go_at_call 181;refine (HPK.out _ ((Below.refl _ _).drew)).mono ?_;rintro e w3 ⟨A3,c3,rfl,ho3,hb3'⟩;rw [Hpl.out] at ho3 ⊢;have hb3:Below W.heap.size W w3:=((Below.refl _ _).drew).trans hb3')|(go_simp;go_at_call 180;refine (possible_any _ _ _ _ _ _ _ _ _ _ _ _ ho3.rd (Nat.le_refl _) hn1 hn4 hs (fun i hi=>Hsm.out i hi) Hk.out Hk2.out).mono ?_;rw [Hbb.out];rintro e w4 ⟨rfl,hb4'⟩;have hb4:=step hb3 hb4')))
    go_wp2
    go_roundw
    case rel=>exact ⟨u+1,Hlt.out,by go_num,hall2,hx1'.out.below hs1 hb4,step Hbw.out hb4,Nat.le_trans hs1 hb4.size⟩
    case measure=>have:=Hlt.out;simp [intOf];omega
  ·obtain rfl:u=nr:=by omega
   have HL:=Lib.hid (show possB s g rs=true from all_rat hlen.out hall.out)
   go_wp2
   go_ret
   exact ⟨by rw [HL.out];rfl,hb⟩
set_option maxHeartbeats 1000000 in
theorem fits_any (s:Nat) (Ag:Option Addr) (ng cg Bg:Nat) (gi:List Int) (Ar:Option Addr) (nr cr Br:Nat) (rs:List RuleM) (A:Option Addr) (c B:Nat) (g:List Int) (w:World) (hp:PGc w s Ag ng cg Bg gi Ar nr cr Br rs) (hg:Rd w B A ng g) (hB:B<=w.heap.size) (hs:s∈[2,3,4]) (hv:pvB s gi rs=true) (hgv:gv g s=true):
 Calls Tryz.prog 119 #[.agg #[.int .i64 s,.slice Ag ng cg,.slice Ar nr cr],.slice A ng c] w fun e w'=>e=.returned (.bool (fitB s gi rs g))/\Below w.heap.size w w':=by
 obtain ⟨hgi,_,hall⟩:=pv_gv hv;rw [hp.r.1] at hall;have hx0:=pbox_new w s Ag ng cg Ar nr cr 26;have hb0:Below w.heap.size w (w.alloc (.cells #[.int .i64 s,.slice Ag ng cg,.slice Ar nr cr] 26)):=(Below.refl _ _).alloc (Nat.le_refl _) _
 have hs0:w.heap.size<(w.alloc (.cells #[.int .i64 s,.slice Ag ng cg,.slice Ar nr cr] 26)).heap.size:=by simp
 obtain ⟨z0,z1,z2⟩:=id hx0;have Hg0:=Lib.hid (show ∀ i,i<ng->0<=nth g i from fun i hi=>(gv_nth hgv (by rw [hg.1];exact hi)).1);have Hgi0:=Lib.hid (show ∀ i,i<ng->0<=nth gi i from fun i hi=>(gv_nth hgi (by rw [hp.g.1];exact hi)).1);have HA:=Lib.hid (fun w' (hb:Below w.heap.size w w')=>agrees_any s Ag ng cg Bg gi Ar nr cr A c B g w' (hp.below hb).g (hp.below hb).gB (hg.below (hb.mono hB)) (Nat.le_trans hB hb.size) hp.gm Hgi0.out Hg0.out);have HSq:=Lib.hid (fun w' (hb:Below w.heap.size w w')=>implSquareFits A c ng B g s w' (hg.below (hb.mono hB)) (Nat.le_trans hB hb.size) hp.gm)
 have HRp:=Lib.hid (fun w' (hb:Below w.heap.size w w')=>rulesPossible_any s Ag ng cg Ar nr cr Br rs A ng c B g w' (hp.below hb).r (hp.below hb).rB hp.rm (hg.below (hb.mono hB)) (Nat.le_trans hB hb.size) hs hgv (fun i hi=>hall i hi))
 have hfit:fitB s gi rs g=(agreeB gi g ng&&possB s g rs&& !clash g s):=by unfold fitB agreeB possB;rw [hg.1]
 have hsq:sqFits g s= !clash g s:=by unfold sqFits;rw [hgv,Bool.true_and]
 rw [hsq] at HSq;clear hsq;cases ha:agreeB gi g ng
 ·have HL:=Lib.hid (show fitB s gi rs g=false by rw [hfit,ha];rfl);clear hfit
  go_enter Tryz.func119,Tryz.ntmps119
  go_wp2_with (go_at_call 157;refine (HA.out _ hb0).mono ?_;rintro e w1 ⟨rfl,hb1⟩;rw [ha])
  go_ret
  exact ⟨by rw [HL.out];rfl,step hb0 hb1⟩
 ·cases hc:clash g s
  ·have HL:=Lib.hid (show fitB s gi rs g=possB s g rs by rw [hfit,ha,hc];simp);clear hfit;rw [hc] at HSq
   go_enter Tryz.func119,Tryz.ntmps119
   go_wp2_with (first|(go_at_call 157;refine (HA.out _ hb0).mono ?_;rintro e w1 ⟨rfl,hb1⟩;rw [ha];have h01:=step hb0 hb1;have hx1:=hx0.below hs0 hb1;have hs1:=Nat.lt_of_lt_of_le hs0 hb1.size;obtain ⟨c0,c1,c2⟩:=id hx1)|(go_at_call 158;refine (HSq.out _ h01).mono ?_;rintro e w2 ⟨rfl,hb2⟩;have h02:=step h01 hb2;obtain ⟨d0,d1,d2⟩:=hx1.below hs1 hb2)|(go_at_call 159;refine (HRp.out _ h02).mono ?_;rintro e w3 ⟨rfl,hb3⟩))
   go_ret
   exact ⟨by rw [HL.out];rfl,step h02 hb3⟩
  ·have HL:=Lib.hid (show fitB s gi rs g=false by rw [hfit,ha,hc];simp);clear hfit;rw [hc] at HSq
   go_enter Tryz.func119,Tryz.ntmps119
   go_wp2_with (first|(go_at_call 157;refine (HA.out _ hb0).mono ?_;rintro e w1 ⟨rfl,hb1⟩;rw [ha];have h01:=step hb0 hb1;have hx1:=hx0.below hs0 hb1;have hs1:=Nat.lt_of_lt_of_le hs0 hb1.size;obtain ⟨c0,c1,c2⟩:=id hx1)|(go_at_call 158;refine (HSq.out _ h01).mono ?_;rintro e w2 ⟨rfl,hb2⟩;have h02:=step h01 hb2))
   go_ret
   exact ⟨by rw [HL.out];rfl,h02⟩
set_option maxHeartbeats 1000000 in
theorem implPuzzleFits (s:Int) (Ag:Option Addr) (ng cg Bg:Nat) (gi:List Int) (Ar:Option Addr) (nr cr Br:Nat) (rs:List RuleM) (A:Option Addr) (n c B:Nat) (g:List Int) (w:World) (hp:PGc w s Ag ng cg Bg gi Ar nr cr Br rs) (hg:Rd w B A n g) (hB:B<=w.heap.size) (hm:n<=1099511627776):
 Calls Tryz.prog 65 #[.agg #[.int .i64 s,.slice Ag ng cg,.slice Ar nr cr],.slice A n c] w fun e w'=>e=.returned (.bool (fpB s gi rs g))/\Below w.heap.size w w':=by
 have hx0:=pbox_new w s Ag ng cg Ar nr cr 26;have hb0:Below w.heap.size w (w.alloc (.cells #[.int .i64 s,.slice Ag ng cg,.slice Ar nr cr] 26)):=(Below.refl _ _).alloc (Nat.le_refl _) _
 have hs0:w.heap.size<(w.alloc (.cells #[.int .i64 s,.slice Ag ng cg,.slice Ar nr cr] 26)).heap.size:=by simp
 obtain ⟨z0,z1,z2⟩:=id hx0;have HV:=Lib.hid (fun w' (hb:Below w.heap.size w w')=>valid_any s Ag ng cg Bg gi Ar nr cr Br rs w' (hp.below hb));have HG:=Lib.hid (fun w' (hb:Below w.heap.size w w')=>implGridValid A c n B g s w' (hg.below (hb.mono hB)) (Nat.le_trans hB hb.size) hm);cases hv:pvB s gi rs
 ·have HL:=Lib.hid (show fpB s gi rs g=false by simp [fpB,hv])
  go_enter Tryz.func65,Tryz.ntmps65
  go_wp2_with (go_at_call 60;refine (HV.out _ hb0).mono ?_;rintro e w1 ⟨rfl,hb1⟩;rw [hv])
  go_ret
  exact ⟨by rw [HL.out];rfl,step hb0 hb1⟩
 ·cases hgv:gv g s
  ·have HL:=Lib.hid (show fpB s gi rs g=false by simp [fpB,hgv])
   go_enter Tryz.func65,Tryz.ntmps65
   go_wp2_with (first|(go_at_call 60;refine (HV.out _ hb0).mono ?_;rintro e w1 ⟨rfl,hb1⟩;rw [hv];have h01:=step hb0 hb1;obtain ⟨c0,c1,c2⟩:=hx0.below hs0 hb1)|(go_at_call 112;refine (HG.out _ h01).mono ?_;rintro e w2 ⟨rfl,hb2⟩;rw [hgv]))
   go_ret
   exact ⟨by rw [HL.out];rfl,step h01 hb2⟩
  ·obtain ⟨hgi,_,_⟩:=pv_gv hv;obtain ⟨s2,s4⟩:=gv_size hgv;obtain ⟨t,rfl⟩:=Int.eq_ofNat_of_zero_le (by omega:0<=s)
   have hs:t∈[2,3,4]:=by
    have:t=2\/t=3\/t=4:=(by omega)
    simpa using this
   have e1:=gv_len hgv;have e2:=gv_len hgi;rw [hg.1] at e1;rw [hp.g.1] at e2
   obtain rfl:n=ng:=by omega
   have HL:=Lib.hid (show fpB t gi rs g=fitB t gi rs g by simp [fpB,hv,hgv]);have HF:=Lib.hid (fun w' (hb:Below w.heap.size w w')=>fits_any t Ag n cg Bg gi Ar nr cr Br rs A c B g w' (hp.below hb) (hg.below (hb.mono hB)) (Nat.le_trans hB hb.size) hs hv hgv);clear e1 e2 hgi
   go_enter Tryz.func65,Tryz.ntmps65
   go_wp2_with (first|(go_at_call 60;refine (HV.out _ hb0).mono ?_;rintro e w1 ⟨rfl,hb1⟩;rw [hv];have h01:=step hb0 hb1;have hx1:=hx0.below hs0 hb1;have hs1:=Nat.lt_of_lt_of_le hs0 hb1.size;obtain ⟨c0,c1,c2⟩:=id hx1)|(go_at_call 112;refine (HG.out _ h01).mono ?_;rintro e w2 ⟨rfl,hb2⟩;rw [hgv];have h02:=step h01 hb2;obtain ⟨d0,d1,d2⟩:=hx1.below hs1 hb2)|(go_at_call 119;refine (HF.out _ h02).mono ?_;rintro e w3 ⟨rfl,hb3⟩))
   go_ret
   exact ⟨by rw [HL.out];rfl,step h02 hb3⟩
theorem cnz_mem {g:List Int} {n:Nat}:memTo g 0 n=false↔cnz g n=n:=by
 rw [cnz_full]
 constructor
 ·intro h k hk e;rw [memTo_hit hk e] at h;cases h
 ·intro h
  induction n with
  |zero=>rfl
  |succ n ih=>
   simp only [memTo,Bool.or_eq_false_iff,beq_eq_false_iff_ne];exact ⟨ih (fun k hk=>h k (by omega)),h n (by omega)⟩
theorem ps_mem {s:Int} {gi g:List Int} {rs:List RuleM}:psB s gi rs g=(fpB s gi rs g&& !memTo g 0 g.length):=by
 unfold psB;cases hf:fpB s gi rs g
 ·rfl
 ·simp only [fpB,Bool.and_eq_true] at hf;have hgv:=hf.1.2;rw [Bool.true_and,Bool.true_and];unfold gf;rw [if_pos hgv];cases hm:memTo g 0 g.length
  ·rw [cnz_mem.1 hm];simp
  ·have:cnz g g.length≠g.length:=fun e=>by rw [cnz_mem.2 e] at hm;cases hm
   simp;omega
set_option maxHeartbeats 1000000 in
theorem implPuzzleSolved (s:Int) (Ag:Option Addr) (ng cg Bg:Nat) (gi:List Int) (Ar:Option Addr) (nr cr Br:Nat) (rs:List RuleM) (A:Option Addr) (n c B:Nat) (g:List Int) (w:World) (hp:PGc w s Ag ng cg Bg gi Ar nr cr Br rs) (hg:Rd w B A n g) (hB:B<=w.heap.size) (hm:n<=1099511627776):
 Calls Tryz.prog 19 #[.agg #[.int .i64 s,.slice Ag ng cg,.slice Ar nr cr],.slice A n c] w fun e w'=>e=.returned (.bool (psB s gi rs g))/\Below w.heap.size w w':=by
 have hlen:=Lib.hid hg.1;have hx0:=pbox_new w s Ag ng cg Ar nr cr 26;have hb0:Below w.heap.size w (w.alloc (.cells #[.int .i64 s,.slice Ag ng cg,.slice Ar nr cr] 26)):=(Below.refl _ _).alloc (Nat.le_refl _) _;obtain ⟨z0,z1,z2⟩:=id hx0;have HF:=Lib.hid (implPuzzleFits s Ag ng cg Bg gi Ar nr cr Br rs A n c B g _ (hp.below hb0) (hg.below (hb0.mono hB)) (Nat.le_trans hB hb0.size) hm);have HM:=Lib.hid (fun w' (hb:Below w.heap.size w w')=>contains_any A c n B g 0 w' (hg.below (hb.mono hB)) hm);cases hf:fpB s gi rs g
 ·have HL:=Lib.hid (show psB s gi rs g=false by simp [ps_mem,hf])
  go_enter Tryz.func19,Tryz.ntmps19
  go_wp2_with (go_at_call 65;refine HF.out.mono ?_;rintro e w1 ⟨rfl,hb1⟩;rw [hf])
  go_ret
  exact ⟨by rw [HL.out];rfl,step hb0 hb1⟩
 ·have HL:=Lib.hid (show psB s gi rs g= !memTo g 0 n by rw [ps_mem,hf,hlen.out,Bool.true_and])
  go_enter Tryz.func19,Tryz.ntmps19
  go_wp2_with (first|(go_at_call 65;refine HF.out.mono ?_;rintro e w1 ⟨rfl,hb1⟩;rw [hf];have h01:=step hb0 hb1)|(go_at_call 66;refine (HM.out _ h01).mono ?_;rintro e w2 ⟨rfl,rfl⟩))
  go_ret
  exact ⟨by rw [HL.out];rfl,h01⟩
end Go.Proofs.YtkeoflnmbcdmfaaGreatDoor
set_option maxRecDepth 8000
namespace Go.Proofs.YtkeoflnmbcdmfaaGreatDoor
open Go.ChangeShapes Go.WideShapes Go.ChangeAt Go.RowKit
theorem below_none {w w':World} (h:w.grownBy w' none):Below w.heap.size w w':=⟨h.os,h.tape,h.output,h.size,fun k hk=>h.block k hk (by simp)⟩
theorem fresh_same {e t:TypeId} (ty:TypeId) {i0:TypeInfo} {z:Value} (ht:Tryz.prog.underlying t=some (.slice e)) (hi:Tryz.prog.info? e=some i0) (hz:i0.zero=some z) {w:World} (b:Nat) (ad:Addr) (m c2:Nat) (news:List Value) (hl:news.length=m*i0.size) (hnews:∀ j u,news[j]? =some u->w.cell? (ad.add j)=some u)
 (hm:0<m) (h63:(m:Int)<=9223372036854775807) (hfit:m*i0.bytes<=281474976710656):
 (Builtin.append_ #[t,t] ty #[.slice (some ⟨b,0,none⟩) 0 0,.slice (some ad) m c2]).run Tryz.prog w=(Builtin.append_ #[t,t] ty #[.slice none 0 0,.slice (some ad) m c2]).run Tryz.prog w:=by
 rw [run_append_grow w t ty e i0 z ht hi hz ⟨b,0,none⟩ 0 0 [] (by simp) (by simp) ad m c2 news hl hnews (by omega) (by simpa using h63) (by rw [Nat.zero_add,nextslicecap_zero hm];exact hfit)];rw [run_append_nil w t ty e i0 z ht hi hz ad m c2 news hl hnews (by omega) h63 hfit]
 simp
theorem fresh_ints {w:World} (ty:TypeId) (b:Nat) (A2:Option Addr) (m c2 B:Nat) (ys:List Int) (hr:Rd w B A2 m ys) (h0:0<m) (hm:m<=1099511627776):
 ∃ A' c' w',(Builtin.append_ #[23,23] ty #[.slice (some ⟨b,0,none⟩) 0 0,.slice A2 m c2]).run Tryz.prog w=.ok (.slice A' m c') w'/\Ow w' w.heap.size A' m c' ys/\Below w.heap.size w w':=by
 obtain ⟨i0,hi,hz0,hz1,hz2⟩:=info_parts int_info;obtain ⟨A',c',w',hrun,h1,h2,_⟩:=run_push_all ty w.heap.size none 0 0 [] A2 m c2 B ys (Ow.nil_ _ _) hr (.inr rfl) (by omega) hm (Nat.le_refl _);obtain ⟨b2,off,rfl,_,_⟩:=hr.at_ h0;rw [Nat.zero_add] at hrun h1;rw [List.nil_append] at h1;exact ⟨A',c',w',(fresh_same ty Tryz.underlying23 hi hz0 b _ m c2 (vals ys) (by rw [vals_length,hr.1,hz1];omega) hr.news h0 (by omega) (by rw [hz2];omega)).trans hrun,h1,below_none h2⟩
theorem fresh_rulesV {w:World} (ty:TypeId) (b:Nat) (A2:Option Addr) (m c2 lo lo2:Nat) (rs2:List RuleM) (vs2:List Value) (hl2:rs2.length=m) (hown2:w.ownsRow lo2 88 3 (.slice A2 m c2) m vs2) (hin2:InR w lo (.slice none 0 0) rs2 vs2 m)
 (hlit:w.heap[b]? =some (.cells #[] 88)) (hb:lo<=b) (hm:m<=1099511627776) (hlo:lo<=w.heap.size):
 ∃ A' c' w',(Builtin.append_ #[24,24] ty #[.slice (some ⟨b,0,none⟩) 0 0,.slice A2 m c2]).run Tryz.prog w=.ok (.slice A' m c') w'/\(w'.ownsRow lo 88 3 (.slice A' m c') m vs2/\InR w' lo (.slice A' m c') rs2 vs2 m)/\Below w.heap.size w w':=by
 obtain ⟨i0,hi,hz0,hz1,hz2⟩:=info_parts rule_parts
 by_cases h0:0<m
 ·obtain ⟨A',c',w',hrun,h1,h2,_⟩:=run_push_rulesV ty lo none 0 0 [] [] A2 m c2 rs2 vs2 lo2 rfl (World.ownsRow_nil _ _ _ _) (fun i hi=>absurd hi (by omega)) hown2 hin2 (.inl h0) (by omega) hm hlo;obtain ⟨hvl2,hcase⟩:=id hown2
  rcases hcase with ⟨_,h00⟩|⟨g2,cap2,cur,hv,_,hrow,q1,q2,q3,q4⟩
  ·omega
  ·injection hv with e1 _ e2
   subst e1
   have hcell:∀ j u,vs2[j]? =some u->w.cell? ((⟨g2,0,none⟩:Addr).add j)=some u:=fun j u hj=>by
    have hadd:(⟨g2,0,none⟩:Addr).add j=⟨g2,j,none⟩:=(by unfold Addr.add;split<;>simp_all);rw [hadd,cell_of_row w g2 j cur _ _ hrow];rw [<- q4,List.getElem?_take] at hj
    split at hj
    ·simpa using hj
    ·cases hj
   rw [Nat.zero_add] at hrun h1;rw [List.nil_append,List.nil_append] at h1;exact ⟨A',c',w',(fresh_same ty Tryz.underlying24 hi hz0 b _ m c2 vs2 (by rw [hvl2,hz1]) hcell h0 (by omega) (by rw [hz2];omega)).trans hrun,h1,below_none h2⟩
 ·obtain rfl:m=0:=by omega
  have hsrc:Go.Src Tryz.prog i0.size 24 (.slice A2 0 c2) 0 [] w:=by
   cases A2 with
   |none=>exact Go.Src.ofNil w Tryz.underlying24 c2
   |some a=>exact Go.Src.ofSlice w Tryz.underlying24 a 0 c2 [] (by simp) (fun j u hj=>by simp at hj) (fun u hu=>by simp at hu)
  refine ⟨some ⟨b,0,none⟩,0,w,run_append_nothing w 24 24 ty 88 i0 Tryz.underlying24 hi (some ⟨b,0,none⟩) 0 0 (Nat.zero_le _) _ hsrc,⟨by rw [show vs2=[] from List.eq_nil_of_length_eq_zero (by rw [hown2.1,Nat.zero_mul])];exact ⟨by simp,.inr ⟨b,0,#[],rfl,hb,hlit,Nat.le_refl _,by simp [maxLen],by simp,by simp⟩⟩,fun i hi=>absurd hi (by omega)⟩,Below.refl _ _⟩
theorem fresh_rules {w:World} (ty:TypeId) (b:Nat) (A2:Option Addr) (m c2 lo lo2:Nat) (rs2:List RuleM) (vs2:List Value) (hl2:rs2.length=m) (hown2:w.ownsRow lo2 88 3 (.slice A2 m c2) m vs2) (hin2:InR w lo (.slice none 0 0) rs2 vs2 m)
 (hlit:w.heap[b]? =some (.cells #[] 88)) (hb:lo<=b) (hm:m<=1099511627776) (hlo:lo<=w.heap.size):
 ∃ A' c' w',(Builtin.append_ #[24,24] ty #[.slice (some ⟨b,0,none⟩) 0 0,.slice A2 m c2]).run Tryz.prog w=.ok (.slice A' m c') w'/\OwR w' lo (.slice A' m c') rs2 m/\Below w.heap.size w w':=by
 obtain ⟨A',c',w',hrun,⟨k1,k2⟩,k3⟩:=fresh_rulesV ty b A2 m c2 lo lo2 rs2 vs2 hl2 hown2 hin2 hlit hb hm hlo;exact ⟨A',c',w',hrun,⟨_,k1,k2⟩,k3⟩
theorem step_fresh_ints {w:World} {ops:Array Oper} {o:Oper} {a:Act} {K:Act->World->Prop} {Q:Exit->Act->World->Prop} {E:Prop} (hgd:o.guard=none) (s x:Operand)
 (ho:o.op=.call { callee:=.builtin .append,args:= #[s,x],argTypes:= #[23,23] })
 (b:Nat) (A2:Option Addr) (m c2 B:Nat) (ys:List Int) (hs:a.eval s=.slice (some ⟨b,0,none⟩) 0 0) (hx:a.eval x=.slice A2 m c2) (hr:Rd w B A2 m ys) (h0:0<m) (hm:m<=1099511627776)
 (h:∀ A' c' w',Ow w' w.heap.size A' m c' ys->Below w.heap.size w w'->K (a.put o.dst (.slice A' m c')) w'):
 if Region.wanted o (yielded ops a.tmps)=true then Oper.wp Tryz.prog o a w K Q else E:=by
 obtain ⟨A',c',w',hrun,h1,h2⟩:=fresh_ints o.type b A2 m c2 B ys hr h0 hm
 have hw:Region.wanted o (yielded ops a.tmps)=true:=by simp [Region.wanted,hgd]
 rw [if_pos hw];unfold Oper.wp execOp;simp only [ho,resolve,invoke,builtin,Sem.run_bind,Sem.run_pure,Result.andThen_ok,List.map_toArray,List.map_cons,List.map_nil,hs,hx,hrun];exact h A' c' w' h1 h2
theorem step_fresh_rules {w:World} {ops:Array Oper} {o:Oper} {a:Act} {K:Act->World->Prop} {Q:Exit->Act->World->Prop} {E:Prop} (hgd:o.guard=none) (s x:Operand)
 (ho:o.op=.call { callee:=.builtin .append,args:= #[s,x],argTypes:= #[24,24] })
 (b:Nat) (A2:Option Addr) (m c2 lo lo2:Nat) (rs2:List RuleM) (vs2:List Value) (hs:a.eval s=.slice (some ⟨b,0,none⟩) 0 0) (hx:a.eval x=.slice A2 m c2) (hl2:rs2.length=m) (hown2:w.ownsRow lo2 88 3 (.slice A2 m c2) m vs2) (hin2:InR w lo (.slice none 0 0) rs2 vs2 m)
 (hlit:w.heap[b]? =some (.cells #[] 88)) (hb:lo<=b) (hm:m<=1099511627776) (hlo:lo<=w.heap.size)
 (h:∀ A' c' w',OwR w' lo (.slice A' m c') rs2 m->Below w.heap.size w w'->K (a.put o.dst (.slice A' m c')) w'):
 if Region.wanted o (yielded ops a.tmps)=true then Oper.wp Tryz.prog o a w K Q else E:=by
 obtain ⟨A',c',w',hrun,h1,h2⟩:=fresh_rules o.type b A2 m c2 lo lo2 rs2 vs2 hl2 hown2 hin2 hlit hb hm hlo
 have hw:Region.wanted o (yielded ops a.tmps)=true:=by simp [Region.wanted,hgd]
 rw [if_pos hw];unfold Oper.wp execOp;simp only [ho,resolve,invoke,builtin,Sem.run_bind,Sem.run_pure,Result.andThen_ok,List.map_toArray,List.map_cons,List.map_nil,hs,hx,hrun];exact h A' c' w' h1 h2
end Go.Proofs.YtkeoflnmbcdmfaaGreatDoor
set_option maxRecDepth 8000
namespace Go.Proofs.YtkeoflnmbcdmfaaGreatDoor
open Go.ChangeShapes Go.WideShapes Go.ChangeAt Go.RowKit
theorem OwR.far {w w':World} {lo n c:Nat} {A:Option Addr} {rs:List RuleM} {row:Option Nat} (h:OwR w lo (.slice A n c) rs n) (hg:w.grownBy w' row) (hr:∀ g,row=some g->g<lo):OwR w' lo (.slice A n c) rs n:=by
 obtain ⟨vs,hown,hin⟩:=h
 refine ⟨vs,World.ownsRow.kept hown hg (by
  cases e:(Value.slice A n c).ownBlock with
  |none=>exact .inl rfl
  |some g=>exact .inr (fun he=>by have h1:=(World.ownsRow.lt hown g e).1;have h2:=hr g he.symm;omega)),fun i hi=>?_⟩
 obtain ⟨A',c',e0,e1,e2,e3,e4,e5⟩:=hin i hi;exact ⟨A',c',e0,e1,e2,e3.far hg (fun g hgg e=>by have h1:=e3.own_lo g hgg;have h2:=hr g e;omega),e4,e5⟩
theorem lt_set5 {a:Nat} {w:World} {p:Addr} {v:Value} (h:a<w.heap.size):a<(w.setCell p v).heap.size:=by rw [World.size_setCell];exact h
theorem grown_row {w:World} {g:Nat} {cs:Array Value}:w.grownBy (w.setRow g cs) (some g):=
 ⟨rfl,rfl,rfl,by simp,fun k hk hne=>by unfold World.setRow;simp only [Array.getElem?_modify];rw [if_neg (fun e=>hne (by rw [e]))]⟩
theorem OwR.mono {w:World} {lo lo' n:Nat} {v:Value} {rs:List RuleM} (h:OwR w lo v rs n) (hl:lo'<=lo):OwR w lo' v rs n:=by
 obtain ⟨vs,hown,hin⟩:=h;refine ⟨vs,World.ownsRow.mono hown hl,fun i hi=>?_⟩;obtain ⟨A',c',e0,e1,e2,e3,e4,e5⟩:=hin i hi;exact ⟨A',c',e0,e1,e2,e3.mono hl,e4,e5⟩
set_option maxHeartbeats 1000000 in
theorem specOwnPuzzle (s:Int) (Ag:Option Addr) (n cg Bg:Nat) (gi:List Int) (Ar:Option Addr) (nr cr Br:Nat) (rs:List RuleM) (w:World) (hg:Rd w Bg Ag n gi) (hBg:Bg<=w.heap.size) (hm:n<=1099511627776) (hr:RdRs w Br Ar nr rs) (hBr:Br<=w.heap.size) (hmr:nr<=1099511627775):
 Calls Tryz.prog 151 #[.agg #[.int .i64 s,.slice Ag n cg,.slice Ar nr cr]] w fun e w'=>∃ A1 c1 A2 c2,e=.returned (.agg #[.int .i64 s,.slice A1 n c1,.slice A2 nr c2])/\Ow w' w.heap.size A1 n c1 gi/\OwR w' w.heap.size (.slice A2 nr c2) rs nr/\Below w.heap.size w w':=by
 have Hone:=Lib.hid puz_one;have Hi:=Lib.hid puz_info;have hx0:=pbox_new w s Ag n cg Ar nr cr 26;have hb0:Below w.heap.size w (w.alloc (.cells #[.int .i64 s,.slice Ag n cg,.slice Ar nr cr] 26)):=(Below.refl _ _).alloc (Nat.le_refl _) _
 have hs0:w.heap.size<(w.alloc (.cells #[.int .i64 s,.slice Ag n cg,.slice Ar nr cr] 26)).heap.size:=by simp
 obtain ⟨V,hV⟩:∃ V,V=((w.alloc (.cells #[.int .i64 s,.slice Ag n cg,.slice Ar nr cr] 26)).alloc (.cells #[.int .i64 0,.slice none 0 0,.slice none 0 0] 26)).alloc (.cells #[.int .i64 s,.slice Ag n cg,.slice Ar nr cr] 26):=⟨_,rfl⟩
 have hbV:Below w.heap.size w V:=by rw [hV];exact (hb0.alloc hb0.size _).alloc (by simp;omega) _
 have hsV:V.heap.size=w.heap.size+1+1+1:=by rw [hV];simp
 have hv2:V.heap[w.heap.size+1+1]? =some (.cells #[.int .i64 s,.slice Ag n cg,.slice Ar nr cr] 26):=by
  have:=heap_alloc2_new (w.alloc (.cells #[.int .i64 s,.slice Ag n cg,.slice Ar nr cr] 26)) (.cells #[.int .i64 0,.slice none 0 0,.slice none 0 0] 26) (.cells #[.int .i64 s,.slice Ag n cg,.slice Ar nr cr] 26);rw [World.size_alloc] at this;rw [hV];exact this
 have hv1:V.heap[w.heap.size+1]? =some (.cells #[.int .i64 0,.slice none 0 0,.slice none 0 0] 26):=by
  have:=heap_alloc2_old (w.alloc (.cells #[.int .i64 s,.slice Ag n cg,.slice Ar nr cr] 26)) (.cells #[.int .i64 0,.slice none 0 0,.slice none 0 0] 26) (.cells #[.int .i64 s,.slice Ag n cg,.slice Ar nr cr] 26);rw [World.size_alloc] at this;rw [hV];exact this
 have hv0:V.cell? ⟨w.heap.size,2,none⟩=some (.slice Ar nr cr):=by
  rw [hV];exact (hx0.below hs0 (((Below.refl _ _).alloc (Nat.le_refl _) _).alloc (by simp) _)).2.2
 have HO:Hid (Ow (V.alloc (.cells #[] 3)) (w.heap.size+1+1+1) (some ⟨w.heap.size+1+1+1,0,none⟩) 0 0 []):=Lib.hid (by
  have:=Ow.made0 V (w.heap.size+1+1+1) (by omega);rw [hsV] at this
  exact this)
 have hbO:Below V.heap.size V (V.alloc (.cells #[] 3)):=(Below.refl _ _).alloc (Nat.le_refl _) _
 have hwV:w.heap.size<=V.heap.size:=by omega
 have HR:=Lib.hid ((hg.below (hbV.mono hBg)).below (hbO.mono (Nat.le_trans hBg hwV)))
 have hsO:w.heap.size+1+1+1<=(V.alloc (.cells #[] 3)).heap.size:=by simp;omega
 have hwV0:w.heap.size<V.heap.size:=by omega
 have hwV1:w.heap.size+1<V.heap.size:=by omega
 have hwV2:w.heap.size+1+1<V.heap.size:=by omega
 have hne12:w.heap.size+1≠w.heap.size+1+1:=by omega
 have hne02:w.heap.size≠w.heap.size+1+1:=by omega
 have hle2:w.heap.size<=w.heap.size+1+1:=by omega
 have HS:=Lib.hid (fun w' (hb:Below w.heap.size w w')=>specOwnRules Ar nr cr Br rs w' (hr.below (hb.mono hBr)) (Nat.le_trans hBr hb.size) hmr);have HV:=Lib.hid hV;clear hV
 go_enter Tryz.func151,Tryz.ntmps151
 go_wp2_with (first
  |(at_builtin;(rw [<- HV.out]);(refine push_new rfl (.tmp 5) (.tmp 7) rfl (w.heap.size+1+1+1) (some ⟨w.heap.size+1+1+1,0,none⟩) Ag n cg Bg gi rfl rfl HO.out HR.out hm hsO ?_);intro A1 c1 w1 ho1 hg1;have hbw1:Below V.heap.size V w1:=hbO.grown hg1 hbO.size (fun k hk=>Nat.le_trans (Nat.le_of_eq hsV) (HO.out.own_lo k hk));have hs1:=Nat.le_trans (Nat.le_of_lt hwV2) hbw1.size;have f1:=(hbw1.block (w.heap.size+1) hwV1).trans hv1;have f2:=(hbw1.block (w.heap.size+1+1) hwV2).trans hv2;have f0:=(hbw1.cell (p:=⟨w.heap.size,2,none⟩) hwV0).trans hv0;have g1:=(heap_setCell_other w1 ⟨w.heap.size+1+1,1,none⟩ (w.heap.size+1) (.slice A1 n c1) hne12).trans f1;have g2:(w1.setCell ⟨w.heap.size+1+1,1,none⟩ (.slice A1 n c1)).heap[w.heap.size+1+1]? =some (.cells #[.int .i64 s,.slice A1 n c1,.slice Ar nr cr] 26):=heap_setCell_same w1 (w.heap.size+1+1) 1 _ _ (.slice A1 n c1) f2;(have fz:=frozen_of_row w1 (w.heap.size+1+1) 1 _ _ f2);have m1:w1.cell? ⟨w.heap.size+1+1,1,none⟩=some (.slice Ag n cg):=cell_of_row _ _ 1 _ _ (0,0) f2;have g0:=(cell_other5 (k:=1) (v:=.slice A1 n c1) hne02).trans f0;have l1:w.heap.size+1<(w1.setCell ⟨w.heap.size+1+1,1,none⟩ (.slice A1 n c1)).heap.size:=lt_set5 (Nat.lt_of_lt_of_le hwV1 hbw1.size);have l2:w.heap.size+1+1<(w1.setCell ⟨w.heap.size+1+1,1,none⟩ (.slice A1 n c1)).heap.size:=lt_set5 (Nat.lt_of_lt_of_le hwV2 hbw1.size);have hB2:=(hbV.trans (hbw1.mono hwV)).setCell hle2 (.slice A1 n c1) (p:=⟨w.heap.size+1+1,1,none⟩))
  |(go_at_call 92;(refine (HS.out _ hB2).mono ?_);rintro e w3 ⟨A2,c2,rfl,ho2,hb3⟩;have h1:=(hb3.block (w.heap.size+1) l1).trans g1;have h2:=(hb3.block (w.heap.size+1+1) l2).trans g2;have fz3:=frozen_of_row w3 (w.heap.size+1+1) 2 _ _ h2;have m5:w3.cell? ⟨w.heap.size+1+1,0,none⟩=some (.int .i64 s):=cell_of_row _ _ 0 _ _ (0,0) h2;have m6:w3.cell? ⟨w.heap.size+1+1,1,none⟩=some (.slice A1 n c1):=cell_of_row _ _ 1 _ _ (0,0) h2;have m7:w3.cell? ⟨w.heap.size+1+1,2,none⟩=some (.slice Ar nr cr):=cell_of_row _ _ 2 _ _ (0,0) h2;have i1:=(heap_setCell_other w3 ⟨w.heap.size+1+1,2,none⟩ (w.heap.size+1) (.slice A2 nr c2) hne12).trans h1;have i2:(w3.setCell ⟨w.heap.size+1+1,2,none⟩ (.slice A2 nr c2)).heap[w.heap.size+1+1]? =some (.cells #[.int .i64 s,.slice A1 n c1,.slice A2 nr c2] 26):=heap_setCell_same w3 (w.heap.size+1+1) 2 _ _ (.slice A2 nr c2) h2;have k5:(w3.setCell ⟨w.heap.size+1+1,2,none⟩ (.slice A2 nr c2)).cell? ⟨w.heap.size+1+1,0,none⟩=some (.int .i64 s):=cell_of_row _ _ 0 _ _ (0,0) i2;have k6:(w3.setCell ⟨w.heap.size+1+1,2,none⟩ (.slice A2 nr c2)).cell? ⟨w.heap.size+1+1,1,none⟩=some (.slice A1 n c1):=cell_of_row _ _ 1 _ _ (0,0) i2;have k7:(w3.setCell ⟨w.heap.size+1+1,2,none⟩ (.slice A2 nr c2)).cell? ⟨w.heap.size+1+1,2,none⟩=some (.slice A2 nr c2):=cell_of_row _ _ 2 _ _ (0,0) i2)
  |(refine wpList_store_row rfl 26 _ _ rfl (w.heap.size+1) #[.int .i64 s,.slice A1 n c1,.slice A2 nr c2] rfl rfl 26 #[.int .i64 0,.slice none 0 0,.slice none 0 0] i1 (Hi.out _ _ _ _ _ _ _) rfl (Hone.out _ _ _ _ _ _ _) ?_))
 have hs1':=hbw1.size;have hs3:=hb3.size;rw [World.size_setCell] at hs3;have hBe:Below w.heap.size w ((w3.setCell ⟨w.heap.size+1+1,2,none⟩ (.slice A2 nr c2)).setRow (w.heap.size+1) #[.int .i64 s,.slice A1 n c1,.slice A2 nr c2]):=setRow_below5 ((step hB2 hb3).setCell (show w.heap.size<=w.heap.size+1+1 by omega) _) (by omega);have ho1':Ow (w1.setCell ⟨w.heap.size+1+1,1,none⟩ (.slice A1 n c1)) (w.heap.size+1+1+1) A1 n c1 gi:=ho1.far (row:=some (w.heap.size+1+1)) grown_set (fun b hb e=>by have:=ho1.own_lo b hb;injection e with e;omega);have ho3:=ho1'.below hb3
 have ho4:Ow (w3.setCell ⟨w.heap.size+1+1,2,none⟩ (.slice A2 nr c2)) (w.heap.size+1+1+1) A1 n c1 gi:=ho3.far (row:=some (w.heap.size+1+1)) grown_set (fun b hb e=>by have:=ho1.own_lo b hb;injection e with e;omega);have ho5:OwR (w3.setCell ⟨w.heap.size+1+1,2,none⟩ (.slice A2 nr c2)) (w1.setCell ⟨w.heap.size+1+1,1,none⟩ (.slice A1 n c1)).heap.size (.slice A2 nr c2) rs nr:=ho2.far (row:=some (w.heap.size+1+1)) grown_set (fun b e=>by injection e with e;omega);refine bodyPost_ret (v:=.agg #[.int .i64 s,.slice A1 n c1,.slice A2 nr c2]) (results_cell_row (by rfl) _ _ (w.heap.size+1) 26 _ (0,0) _ rfl (setRow_heap _ _ _ _ _ _ i1) Tryz.underlying26 rfl (Hi.out _ _ _ _ _ _ _)) rfl ⟨_,_,_,_,rfl,(ho4.row5 (fun b hb=>?_)).mono (by omega),(ho5.far (row:=some (w.heap.size+1)) grown_row (fun b e=>?_)).mono (by rw [World.size_setCell];omega),hBe⟩
 ·have:=ho4.own_lo b hb;omega
 ·injection e with e
  omega
end Go.Proofs.YtkeoflnmbcdmfaaGreatDoor
set_option maxRecDepth 8000
namespace Go.Proofs.YtkeoflnmbcdmfaaGreatDoor
open Go.ChangeShapes Go.WideShapes Go.ChangeAt Go.RowKit
def givenB (n:Nat) (gi:List Int) (i:Int):Bool:=inr i 0 ((n:Int)-1)&&decide (0<nth gi i.toNat)
def redB (s:Int) (n:Nat) (gi:List Int) (rs:List RuleM) (i:Int):Bool:=pvB s gi rs&&givenB n gi i&&oneB s n gi rs&&oneB s n (gi.set i.toNat 0) rs
set_option maxHeartbeats 2000000 in
theorem specIsRedundant (s:Int) (Ag:Option Addr) (n cg Bg:Nat) (gi:List Int) (Ar:Option Addr) (nr cr Br:Nat) (rs:List RuleM) (i:Int) (w:World) (hp:PGs w s Ag n cg Bg gi Ar nr cr Br rs):
 Calls Tryz.prog 153 #[.agg #[.int .i64 s,.slice Ag n cg,.slice Ar nr cr],.int .i64 i] w fun e w'=>e=.returned (.bool (redB s n gi rs i))/\Below w.heap.size w w':=by
 have hx0:=pbox_new w s Ag n cg Ar nr cr 26;have hb0:Below w.heap.size w (w.alloc (.cells #[.int .i64 s,.slice Ag n cg,.slice Ar nr cr] 26)):=(Below.refl _ _).alloc (Nat.le_refl _) _
 have hs0:w.heap.size<(w.alloc (.cells #[.int .i64 s,.slice Ag n cg,.slice Ar nr cr] 26)).heap.size:=by simp
 have HP:=Lib.hid (fun w' (hb:Below w.heap.size w w')=>specPuzzleValid s Ag n cg Bg gi Ar nr cr Br rs w' (hp.below hb).g (hp.below hb).gB hp.gm (hp.below hb).r (hp.below hb).rB hp.rm);have HO:=Lib.hid (fun w' (hb:Below w.heap.size w w')=>specOne s Ag n cg Bg gi Ar nr cr Br rs w' (hp.below hb));have hlen:=Lib.hid hp.g.1;have hm:=hp.gm;cases hv:pvB s gi rs
 ·have HL:=Lib.hid (show redB s n gi rs i=false by simp [redB,hv])
  go_enter Tryz.func153,Tryz.ntmps153
  go_wp2_with (go_at_call 25;refine (HP.out _ hb0).mono ?_;rintro e w1 ⟨rfl,hb1⟩;rw [hv];have hB1:=step hb0 hb1;clear hb1)
  go_ret
  exact ⟨by rw [HL.out];rfl,hB1⟩
 ·cases hin:inr i 0 ((n:Int)-1)
  ·have HL:=Lib.hid (show redB s n gi rs i=false by simp [redB,givenB,hin]);have Hin:=Lib.hid hin;clear hin
   go_enter Tryz.func153,Tryz.ntmps153
   go_wp2_with (first|(go_at_call 25;refine (HP.out _ hb0).mono ?_;rintro e w1 ⟨rfl,hb1⟩;rw [hv];have hB1:=step hb0 hb1;obtain ⟨d0,d1,d2⟩:=hx0.below hs0 hb1;clear hb1)|(go_at_call 62;refine (l1In_any _ _ _ _).mono ?_;rintro e w' ⟨rfl,rfl⟩;(rw [Hin.out])))
   go_ret
   exact ⟨by rw [HL.out];rfl,hB1⟩
  ·obtain ⟨k,rfl⟩:=Int.eq_ofNat_of_zero_le (show 0<=i by simp [inr] at hin;omega);have hk:k<n:=(by simp [inr] at hin;omega);have Hin:=Lib.hid hin;clear hin;obtain ⟨b,off,rfl,hbB,hck⟩:=hp.g.at_ hk;have hbw:b<w.heap.size:=Nat.lt_of_lt_of_le hbB hp.gB;have HW:=Lib.hid (fun w' (hb:Below w.heap.size w w')=>specWithout (Bg:=Bg) s (some ⟨b,off,none⟩) n cg gi Ar nr cr k w' (hp.below hb).g (hp.below hb).gB hm hk);have HC:=Lib.hid (fun w' (hb:Below w.heap.size w w')=>((hb.cell (p:=⟨b,off+k,none⟩) hbw).trans hck:w'.cell? ⟨b,off+k,none⟩=some (.int .i64 (nth gi k))))
   by_cases hx:0<nth gi k
   ·cases ho:oneB s n gi rs
    ·have HL:=Lib.hid (show redB s n gi rs k=false by simp [redB,ho])
     go_enter Tryz.func153,Tryz.ntmps153
     go_wp2_with (first|(go_at_call 25;refine (HP.out _ hb0).mono ?_;rintro e w1 ⟨rfl,hb1⟩;rw [hv];have hB1:=step hb0 hb1;obtain ⟨d0,d1,d2⟩:=hx0.below hs0 hb1;have hck1:=HC.out _ hB1;clear hb1)|(go_at_call 62;refine (l1In_any _ _ _ _).mono ?_;rintro e w' ⟨rfl,rfl⟩;(rw [Hin.out]))|(go_at_call 152;refine (HO.out _ hB1).mono ?_;rintro e w2 ⟨rfl,hb2⟩;rw [ho]))
     go_ret
     exact ⟨by rw [HL.out];rfl,step hB1 hb2⟩
    ·cases ho2:oneB s n (gi.set k 0) rs
     all_goals
      have HL:=Lib.hid (show redB s n gi rs k=oneB s n (gi.set k 0) rs by simp [redB,givenB,hv,Hin.out,hx,ho]);rw [ho2] at HL;have HO2:=Lib.hid (fun w' (hb:Below w.heap.size w w') A' c' B' (h:Rd w' B' A' n (gi.set k 0)) (hB:B'<=w'.heap.size)=>specOne s A' n c' B' (gi.set k 0) Ar nr cr Br rs w' ⟨h,hB,hm,(hp.below hb).r,(hp.below hb).rB,hp.rm⟩)
      go_enter Tryz.func153,Tryz.ntmps153
      go_wp2_with (first|(go_at_call 25;refine (HP.out _ hb0).mono ?_;rintro e w1 ⟨rfl,hb1⟩;rw [hv];have hB1:=step hb0 hb1;obtain ⟨d0,d1,d2⟩:=hx0.below hs0 hb1;have hs1:=Nat.lt_of_lt_of_le hs0 hb1.size;have hck1:=HC.out _ hB1;clear hb1)|(go_at_call 62;refine (l1In_any _ _ _ _).mono ?_;rintro e w' ⟨rfl,rfl⟩;(rw [Hin.out]))|(go_at_call 154;refine (HW.out _ hB2).mono ?_;rintro e w3 ⟨A3,c3,rfl,ho3,hb3⟩;have hB3:=step hB2 hb3;clear hb3)|(go_at_call 152;refine (HO.out _ hB1).mono ?_;rintro e w2 ⟨rfl,hb2⟩;rw [ho];have hB2:=step hB1 hb2;obtain ⟨e0,e1,e2⟩:=PBox.below ⟨d0,d1,d2⟩ hs1 hb2;clear hb2)|(go_at_call 152;refine (HO2.out _ hB3 _ _ _ ho3.rd (Nat.le_refl _)).mono ?_;rintro e w4 ⟨rfl,hb4⟩;rw [ho2];have hB4:=step hB3 hb4;clear hb4))
      go_ret
      exact ⟨by rw [HL.out];rfl,hB4⟩
   ·have HL:=Lib.hid (show redB s n gi rs k=false by simp [redB,givenB,hx])
    go_enter Tryz.func153,Tryz.ntmps153
    go_wp2_with (first|(go_at_call 25;refine (HP.out _ hb0).mono ?_;rintro e w1 ⟨rfl,hb1⟩;rw [hv];have hB1:=step hb0 hb1;obtain ⟨d0,d1,d2⟩:=hx0.below hs0 hb1;have hck1:=HC.out _ hB1;clear hb1)|(go_at_call 62;refine (l1In_any _ _ _ _).mono ?_;rintro e w' ⟨rfl,rfl⟩;(rw [Hin.out])))
    go_ret
    exact ⟨by rw [HL.out];rfl,hB1⟩
end Go.Proofs.YtkeoflnmbcdmfaaGreatDoor
