import Derived.Test.YtkeoflnmbcdmfaaDoorMHo
import Derived.Test.YtkeoflnmbcdmfaaDoorMI3
import Derived.Test.YtkeoflnmbcdmfaaDoorMKp
import Derived.Test.YtkeoflnmbcdmfaaDoorMMadeA
import Derived.Test.YtkeoflnmbcdmfaaDoorMR21
import Derived.Test.YtkeoflnmbcdmfaaDoorMRP
import Derived.Test.YtkeoflnmbcdmfaaDoorMSa
import Derived.Test.YtkeoflnmbcdmfaaDoorMTenB
import Derived.Test.YtkeoflnmbcdmfaaDoorMW1F
import Derived.Test.YtkeoflnmbcdmfaaDoorMWTK2
import Derived.Deep.RegionWith
import Derived.BigQuiet
import Derived.Deep.RegionHeld3
set_option maxRecDepth 8000
namespace Go.Proofs.YtkeoflnmbcdmfaaDoor
def evL (s:Int) (n:Nat) (rs:List RuleM) (gi:List Int):Nat->List Int
 |0=>gi
 |k+1=>if decide (0<nth (evL s n rs gi k) k+nth (evL s n rs gi k) (n-1-k))&&oneB s n (((evL s n rs gi k).set k 0).set (n-1-k) 0) rs then ((evL s n rs gi k).set k 0).set (n-1-k) 0 else evL s n rs gi k
theorem evL_length (s:Int) (n:Nat) (rs:List RuleM) (gi:List Int) (k:Nat):(evL s n rs gi k).length=gi.length:=by
 induction k with
 |zero=>rfl
 |succ k ih=>unfold evL;split<;>simp [ih]
theorem evL_inv {s n:Nat} {gi:List Int} {rs:List RuleM} (hv:pvB s gi rs=true) (ho:oneB s n gi rs=true) (k:Nat):Mk1 s n rs (evL s n rs gi k) gi:=by
 induction k with
 |zero=>exact ⟨hv,ho,Le0.refl _⟩
 |succ k ih=>
  unfold evL
  split
  ·next h=>
   rw [Bool.and_eq_true] at h;exact ⟨pv_put (pv_put ih.v k) _,h.2,(Le0.set _ _).trans ((Le0.set _ k).trans ih.l)⟩
  ·exact ih
theorem evL_sym {s n:Nat} {gi:List Int} {rs:List RuleM} (hl:gi.length=n) (hf:∀ i,i<n->nth gi i≠0):∀ k,2*k<=n+1->∀ i,i<n->(nth (evL s n rs gi k) i=0↔nth (evL s n rs gi k) (n-1-i)=0):=by
 intro k
 induction k with
 |zero=>intro _ i hi;exact ⟨fun h=>absurd h (hf i hi),fun h=>absurd h (hf _ (by omega))⟩
 |succ k ih=>
  intro hk i hi;have hL:=evL_length s n rs gi k;unfold evL
  split
  ·rw [nth_setM (by simp;omega),nth_setM (by omega),nth_setM (by simp;omega),nth_setM (by omega)]
   by_cases e1:i=n-1-k
   ·rw [if_pos e1]
    by_cases e2:n-1-i=n-1-k
    ·rw [if_pos e2]
    ·rw [if_neg e2,if_pos (by omega)]
   ·rw [if_neg e1]
    by_cases e3:i=k
    ·rw [if_pos e3,if_pos (by omega)]
    ·rw [if_neg e3,if_neg (by omega),if_neg (by omega)];exact ih (by omega) i hi
  ·exact ih (by omega) i hi
theorem cnz_mono {a b:List Int} (h:Le0 a b):∀ m,cnz a m<=cnz b m:=by
 intro m
 induction m with
 |zero=>exact Nat.le_refl _
 |succ m ih=>
  simp only [cnz]
  rcases h.2 m with e|e
  ·rw [e];omega
  ·rw [e];simp;omega
end Go.Proofs.YtkeoflnmbcdmfaaDoor
set_option maxRecDepth 8000
namespace Go.Proofs.YtkeoflnmbcdmfaaDoor
open Go.ChangeShapes Go.WideShapes Go.ChangeAt Go.RowKit
def EvPost (s:Int) (n:Nat) (gi:List Int) (nr:Nat) (rs:List RuleM) (w:World) (e:Ending) (w':World):Prop:=
 Below w.heap.size w w'/\((e=.returned (.tuple #[.agg #[.int .i64 0,.slice none 0 0,.slice none 0 0],.bool false])/\(pvB s gi rs&&oneB s n gi rs)=false)\/
  ((pvB s gi rs&&oneB s n gi rs)=true/\∃ A1 c1 A2 c2 K,e=.returned (.tuple #[.agg #[.int .i64 s,.slice A1 n c1,.slice A2 nr c2],.bool true])/\Ow w' K A1 n c1 (evL s n rs gi ((n+1)/2))/\w.heap.size<=K/\OwR w' w.heap.size (.slice A2 nr c2) rs nr/\SpQ w' w.heap.size (.slice A2 nr c2) nr (fun g=>g<K)))
set_option maxHeartbeats 4000000 in
theorem specMakeEven (s:Int) (Ag:Option Addr) (n cg Bg:Nat) (gi:List Int) (Ar:Option Addr) (nr cr Br:Nat) (rs:List RuleM) (w:World) (hp:PGs w s Ag n cg Bg gi Ar nr cr Br rs) (hm2:nr<=1099511627775):
 Calls Tryd.prog 39 #[.agg #[.int .i64 s,.slice Ag n cg,.slice Ar nr cr]] w (EvPost s n gi nr rs w):=by
 have Hone:=Lib.hid puz_one;have Hi:=Lib.hid puz_info;have hrl:=hp.r.1;obtain ⟨W0,hW0⟩:∃ W0,(w.alloc (.cells #[.int .i64 s,.slice Ag n cg,.slice Ar nr cr] 26)).alloc (.cells #[.int .i64 0,.slice none 0 0,.slice none 0 0] 26)=W0:=⟨_,rfl⟩
 have hb0:Below w.heap.size w W0:=by rw [<- hW0];exact ((Below.refl _ _).alloc (Nat.le_refl _) _).alloc (by simp) _
 have hs0:W0.heap.size=w.heap.size+1+1:=by rw [<- hW0];simp
 have hp0:W0.heap[w.heap.size]? =some (.cells #[.int .i64 s,.slice Ag n cg,.slice Ar nr cr] 26):=by
  rw [<- hW0];exact (Below.heap_alloc _ _ _ (by simp)).trans (heap_alloc_new w _)
 have hq0:W0.heap[w.heap.size+1]? =some (.cells #[.int .i64 0,.slice none 0 0,.slice none 0 0] 26):=by
  rw [<- hW0];have:=heap_alloc_new (w.alloc (.cells #[.int .i64 s,.slice Ag n cg,.slice Ar nr cr] 26)) (.cells #[.int .i64 0,.slice none 0 0,.slice none 0 0] 26);rwa [World.size_alloc] at this
 have hP0:=hp.below (hb0.mono (Nat.le_refl _));have HOP:=Lib.hid (specOwnPuzzle s Ag n cg Bg gi Ar nr cr Br rs W0 hP0.g hP0.gB hp.gm hP0.r hP0.rB hm2);obtain ⟨z0,z1,z2⟩:PBox W0 w.heap.size s Ag n cg Ar nr cr:=⟨cell_of_row _ _ 0 _ _ (0,0) hp0,cell_of_row _ _ 1 _ _ (0,0) hp0,cell_of_row _ _ 2 _ _ (0,0) hp0⟩;have HW0:=Lib.hid hW0;clear hW0 hP0
 go_enter Tryd.func39,Tryd.ntmps39
 go_wp2_with fail
 rw [HW0.out];refine HOP.out.mono ?_;rintro e w1 ⟨A1,c1,A2,c2,rfl,ho1,hor1,hb1⟩;have hp1:=(hb1.block w.heap.size (by omega)).trans hp0;have hq1:=(hb1.block (w.heap.size+1) (by omega)).trans hq0;obtain ⟨W2,hW2⟩:∃ W2,w1.setRow w.heap.size #[.int .i64 s,.slice A1 n c1,.slice A2 nr c2]=W2:=⟨_,rfl⟩
 have hb2:Below w.heap.size w W2:=by rw [<- hW2];exact setRow_below5 (hb0.trans (hb1.mono hb0.size)) (Nat.le_refl _)
 have hp2:W2.heap[w.heap.size]? =some (.cells #[.int .i64 s,.slice A1 n c1,.slice A2 nr c2] 26):=by rw [<- hW2];exact setRow_heap _ _ _ _ _ _ hp1
 have hq2:W2.heap[w.heap.size+1]? =some (.cells #[.int .i64 0,.slice none 0 0,.slice none 0 0] 26):=by
  rw [<- hW2];refine Eq.trans ?_ hq1;unfold World.setRow;simp only [Array.getElem?_modify];rw [if_neg (by omega)]
 have ho2:Ow W2 W0.heap.size A1 n c1 gi:=by rw [<- hW2];exact ho1.row5 (fun b hb=>by have:=ho1.own_lo b hb;omega)
 have hor2:OwR W2 W0.heap.size (.slice A2 nr c2) rs nr:=by rw [<- hW2];exact hor1.keptL grown_setRow5 (by omega)
 have hP2:PGs W2 s A1 n c1 W2.heap.size gi A2 nr c2 W2.heap.size rs:=⟨ho2.rd,Nat.le_refl _,hp.gm,hor2.rd hrl,Nat.le_refl _,hp.rm⟩;have hs2:w.heap.size+1<W2.heap.size:=(Array.getElem?_eq_some_iff.1 hq2).1;have HV:=Lib.hid (fun w' (hb:Below W2.heap.size W2 w')=>specPuzzleValid s A1 n c1 W2.heap.size gi A2 nr c2 W2.heap.size rs w' (hP2.below hb).g (hP2.below hb).gB hp.gm (hP2.below hb).r (hP2.below hb).rB hp.rm);have HO:=Lib.hid (fun w' (hb:Below W2.heap.size W2 w')=>specOne s A1 n c1 W2.heap.size gi A2 nr c2 W2.heap.size rs w' (hP2.below hb));obtain ⟨y0,y1,y2⟩:PBox W2 w.heap.size s A1 n c1 A2 nr c2:=⟨cell_of_row _ _ 0 _ _ (0,0) hp2,cell_of_row _ _ 1 _ _ (0,0) hp2,cell_of_row _ _ 2 _ _ (0,0) hp2⟩
 have HB2:=Lib.hid hb2;cases hv:pvB s gi rs
 ·have hf:(pvB s gi rs&&oneB s n gi rs)=false:=by rw [hv];rfl
  go_wp2_with (first|(refine wpList_store_row rfl 26 _ _ rfl w.heap.size #[.int .i64 s,.slice A1 n c1,.slice A2 nr c2] rfl rfl 26 #[.int .i64 s,.slice Ag n cg,.slice Ar nr cr] hp1 (Hi.out _ _ _ _ _ _ _) rfl (Hone.out _ _ _ _ _ _ _) ?_;rw [hW2])|(go_at_call 20;refine (HV.out _ (Below.refl _ _)).mono ?_;rintro e w3 ⟨rfl,hb3⟩;rw [hv];have hq3:=(hb3.block (w.heap.size+1) hs2).trans hq2)|(refine wpList_store_row rfl 26 _ _ rfl (w.heap.size+1) #[.int .i64 0,.slice none 0 0,.slice none 0 0] rfl rfl 26 #[.int .i64 0,.slice none 0 0,.slice none 0 0] hq3 (Hi.out _ _ _ _ _ _ _) rfl (Hone.out _ _ _ _ _ _ _) ?_))
  have hBe:Below w.heap.size w (w3.setRow (w.heap.size+1) #[.int .i64 0,.slice none 0 0,.slice none 0 0]):=setRow_below5 (HB2.out.trans (hb3.mono HB2.out.size)) (by omega);exact bodyPost_ret (v:=.tuple #[.agg #[.int .i64 0,.slice none 0 0,.slice none 0 0],.bool false]) (results_row_tmp (by rfl) _ _ (w.heap.size+1) 26 _ (0,0) _ _ rfl rfl (setRow_heap _ _ _ _ _ _ hq3) Tryd.underlying26 rfl (Hi.out _ _ _ _ _ _ _)) rfl ⟨hBe,.inl ⟨rfl,hf⟩⟩
 ·have hx2:PBox W2 w.heap.size s A1 n c1 A2 nr c2:=⟨y0,y1,y2⟩;cases ho:oneB s n gi rs
  ·have hf:(pvB s gi rs&&oneB s n gi rs)=false:=by rw [ho,Bool.and_false]
   go_wp2_with (first|(refine wpList_store_row rfl 26 _ _ rfl w.heap.size #[.int .i64 s,.slice A1 n c1,.slice A2 nr c2] rfl rfl 26 #[.int .i64 s,.slice Ag n cg,.slice Ar nr cr] hp1 (Hi.out _ _ _ _ _ _ _) rfl (Hone.out _ _ _ _ _ _ _) ?_;rw [hW2])|(go_at_call 20;refine (HV.out _ (Below.refl _ _)).mono ?_;rintro e w3 ⟨rfl,hb3⟩;rw [hv];obtain ⟨x0,x1,x2⟩:=hx2.below (by omega:w.heap.size<W2.heap.size) hb3)|(go_at_call 65;refine (HO.out _ hb3).mono ?_;rintro e w4 ⟨rfl,hb4'⟩;rw [ho];have hb4:=step hb3 hb4';have hq4:=(hb4.block (w.heap.size+1) hs2).trans hq2)|(refine wpList_store_row rfl 26 _ _ rfl (w.heap.size+1) #[.int .i64 0,.slice none 0 0,.slice none 0 0] rfl rfl 26 #[.int .i64 0,.slice none 0 0,.slice none 0 0] hq4 (Hi.out _ _ _ _ _ _ _) rfl (Hone.out _ _ _ _ _ _ _) ?_))
   have hBe:Below w.heap.size w (w4.setRow (w.heap.size+1) #[.int .i64 0,.slice none 0 0,.slice none 0 0]):=setRow_below5 (HB2.out.trans (hb4.mono HB2.out.size)) (by omega);exact bodyPost_ret (v:=.tuple #[.agg #[.int .i64 0,.slice none 0 0,.slice none 0 0],.bool false]) (results_row_tmp (by rfl) _ _ (w.heap.size+1) 26 _ (0,0) _ _ rfl rfl (setRow_heap _ _ _ _ _ _ hq4) Tryd.underlying26 rfl (Hi.out _ _ _ _ _ _ _)) rfl ⟨hBe,.inl ⟨rfl,hf⟩⟩
  ·have ht:(pvB s gi rs&&oneB s n gi rs)=true:=by rw [hv,ho];rfl
   go_wp2_with (first|(refine wpList_store_row rfl 26 _ _ rfl w.heap.size #[.int .i64 s,.slice A1 n c1,.slice A2 nr c2] rfl rfl 26 #[.int .i64 s,.slice Ag n cg,.slice Ar nr cr] hp1 (Hi.out _ _ _ _ _ _ _) rfl (Hone.out _ _ _ _ _ _ _) ?_;rw [hW2])|(go_at_call 20;refine (HV.out _ (Below.refl _ _)).mono ?_;rintro e w3 ⟨rfl,hb3⟩;rw [hv];obtain ⟨x0,x1,x2⟩:=hx2.below (by omega:w.heap.size<W2.heap.size) hb3)|(go_at_call 65;refine (HO.out _ hb3).mono ?_;rintro e w4 ⟨rfl,hb4'⟩;rw [ho];have hb4:=step hb3 hb4';obtain ⟨x0',x1',x2'⟩:=hx2.below (by omega:w.heap.size<W2.heap.size) hb4))
   obtain ⟨hgi,_,_⟩:=pv_gv hv
   have hn4:0<n:=by
    obtain ⟨q2,q4⟩:=gv_size hgi;have:=gv_len hgi;rw [hp.g.1] at this;have:=(sq_bd q2 q4).1;omega
   obtain ⟨vs2,hown2,hin2⟩:=id hor2;have HX:=Lib.hid (fun w' (hb:Below w4.heap.size w4 w')=>(hx2.below (by omega:w.heap.size<W2.heap.size) (hb4.trans (hb.mono hb4.size))));have HR1:=Lib.hid (fun w' (hb:Below w4.heap.size w4 w')=>(ho2.rd.below (hb4.trans (hb.mono hb4.size))))
   have HOW:=Lib.hid (fun w' (hb:Below w4.heap.size w4 w')=>(show w'.ownsRow W0.heap.size 63 3 (.slice A2 nr c2) nr vs2/\InR w' W0.heap.size (.slice none 0 0) rs vs2 nr from by
    have hbb:=hb4.trans (hb.mono hb4.size);refine ⟨World.ownsRow.kept hown2 (row:=none) ⟨hbb.os,hbb.tape,hbb.output,hbb.size,fun k hk _=>hbb.block k hk⟩ (by cases e:(Value.slice A2 nr c2).ownBlock<;>simp),fun i hi=>?_⟩;obtain ⟨A',c',e0,e1,e2,e3,e4,e5⟩:=hin2 i hi
    exact ⟨A',c',e0,e1,e2,Ow.below e3 hbb,e4,fun g hg e=>by simp [Value.ownBlock] at e⟩))
   have hlo4:W0.heap.size<=w4.heap.size:=by
    have q1:=hb1.size;have q2:=hb4.size;have q3:W2.heap.size=w1.heap.size:=(by rw [<- hW2];simp);omega
   have hlo2:W0.heap.size<=W2.heap.size:=by
    have q1:=hb1.size;have q3:W2.heap.size=w1.heap.size:=(by rw [<- hW2];simp);omega
   have hm1:=hp.gm;have hK4:W2.heap.size<=w4.heap.size:=hb4.size
   have hcb:CbV vs2 nr (fun g=>g<W2.heap.size):=fun i A' n' c' hi he g hg=>by
    obtain ⟨A2',c2',_,e1,_,ho',_⟩:=hin2 i hi;rw [he] at e1
    injection e1 with e1
    rw [e1] at hg;exact ho'.own_hi g hg
   refine wp_region_ds [19,20,21,22,23,24,25,26,27,28,29,4] (MakeG w.heap.size W0.heap.size W2.heap.size n s A1 c1 A2 nr c2 gi rs) (by kernel_rfl) (by kernel_rfl) (by simp) makeG_below ?step ?last
   case step=>
    intro i o a w' hi hoo hb hfr hpre;have e1:a.eval (.tmp 1)=.pointer (some ⟨w.heap.size,0,none⟩):=hfr 1 (by simp);obtain ⟨x0,x1,x2⟩:=HX.out w' hb;have hi12:i<12:=hi;have:i=0\/i=1\/i=2\/i=3\/i=4\/i=5\/i=6\/i=7\/i=8\/i=9\/i=10\/i=11:=(by omega)
    rcases this with rfl|rfl|rfl|rfl|rfl|rfl|rfl|rfl|rfl|rfl|rfl|rfl
    all_goals
     simp only [List.getElem?_toArray,List.getElem?_cons_zero,List.getElem?_cons_succ,Option.some.injEq] at hoo;subst hoo
    ·refine ⟨_,w',?_,Below.refl _ _,rfl⟩;unfold execOp;simp only [e1]
     go_simp
    ·have p0:=hpre ⟨0,.data⟩ (by simp) rfl;have p0':a.eval (.tmp 19)=.pointer (some ⟨w.heap.size,0,none⟩):=p0;refine ⟨_,w',?_,Below.refl _ _,rfl⟩;unfold execOp;simp only [p0']
     go_simp
    ·refine ⟨_,_,?_,(Below.refl _ _).alloc (Nat.le_refl _) (.cells #[] 3),⟨w'.heap.size,rfl⟩⟩;unfold execOp
     go_simp
    ·refine ⟨_,w',?_,Below.refl _ _,rfl⟩;unfold execOp;simp only [e1]
     go_simp
    ·have p0':a.eval (.tmp 22)=.pointer (some ⟨w.heap.size,1,none⟩):=hpre ⟨3,.data⟩ (by simp) rfl;refine ⟨_,w',?_,Below.refl _ _,rfl⟩;unfold execOp;simp only [p0']
     go_simp
    ·obtain ⟨b,hb19⟩:∃ b,a.eval (.tmp 21)=.slice (some ⟨b,0,none⟩) 0 0:=hpre ⟨2,.data⟩ (by simp) rfl;have p21:a.eval (.tmp 23)=.slice A1 n c1:=hpre ⟨4,.data⟩ (by simp) rfl;obtain ⟨A',c',w2,hrun,q1,q2⟩:=fresh_ints 23 b A1 n c1 _ gi (HR1.out w' hb) hn4 hm1;refine ⟨.slice A' n c',w2,?_,q2,A',c',rfl,q1.mono (Nat.le_trans hK4 hb.size)⟩;unfold execOp;simp only [resolve,invoke,builtin,Sem.run_bind,Sem.run_pure,Result.andThen_ok,List.map_toArray,List.map_cons,List.map_nil,hb19,p21,hrun]
    ·refine ⟨_,_,?_,(Below.refl _ _).alloc (Nat.le_refl _) (.cells #[] 63),⟨w'.heap.size,rfl,heap_alloc_new _ _,Nat.le_trans hlo4 hb.size⟩⟩;unfold execOp
     go_simp
    ·refine ⟨_,w',?_,Below.refl _ _,rfl⟩;unfold execOp;simp only [e1]
     go_simp
    ·have p0':a.eval (.tmp 26)=.pointer (some ⟨w.heap.size,2,none⟩):=hpre ⟨7,.data⟩ (by simp) rfl;refine ⟨_,w',?_,Below.refl _ _,rfl⟩;unfold execOp;simp only [p0']
     go_simp
    ·obtain ⟨b,hb23,hlit,hbl⟩:∃ b,a.eval (.tmp 25)=.slice (some ⟨b,0,none⟩) 0 0/\w'.heap[b]? =some (.cells #[] 63)/\W0.heap.size<=b:=hpre ⟨6,.data⟩ (by simp) rfl;have p25:a.eval (.tmp 27)=.slice A2 nr c2:=hpre ⟨8,.data⟩ (by simp) rfl;obtain ⟨hw1,hw2⟩:=HOW.out w' hb;obtain ⟨A',c',w2,hrun,⟨q1,q1'⟩,q2⟩:=fresh_rulesV 24 b A2 nr c2 W0.heap.size W0.heap.size rs vs2 hrl hw1 hw2 hlit hbl hp.rm (Nat.le_trans hlo4 hb.size);refine ⟨.slice A' nr c',w2,?_,q2,A',c',rfl,⟨vs2,q1,q1'⟩,⟨vs2,q1,hcb⟩⟩;unfold execOp;simp only [resolve,invoke,builtin,Sem.run_bind,Sem.run_pure,Result.andThen_ok,List.map_toArray,List.map_cons,List.map_nil,hb23,p25,hrun]
    ·have p18:a.eval (.tmp 20)=.int .i64 s:=hpre ⟨1,.data⟩ (by simp) rfl;obtain ⟨A',c',p22,q22⟩:∃ A' c',a.eval (.tmp 24)=.slice A' n c'/\Ow w' W2.heap.size A' n c' gi:=hpre ⟨5,.data⟩ (by simp) rfl;obtain ⟨A'',c'',p26,q26,q26'⟩:∃ A' c',a.eval (.tmp 28)=.slice A' nr c'/\OwR w' W0.heap.size (.slice A' nr c') rs nr/\SpQ w' W0.heap.size (.slice A' nr c') nr (fun g=>g<W2.heap.size):=hpre ⟨9,.data⟩ (by simp) rfl;refine ⟨.agg #[.int .i64 s,.slice A' n c',.slice A'' nr c''],w',?_,Below.refl _ _,A',c',A'',c'',rfl,q22,q26,q26'⟩;unfold execOp;simp only [List.map_toArray,List.map_cons,List.map_nil,p18,p22,p26]
     go_simp
    ·refine ⟨_,_,?_,(Below.refl _ _).alloc (Nat.le_refl _) (.cells #[.int .i64 0,.slice none 0 0,.slice none 0 0] 26),⟨w'.heap.size,rfl,heap_alloc_new _ _,Nat.le_trans hlo4 hb.size⟩⟩;unfold execOp
     go_simp
   case last=>
    intro o a w5 hoo hb5 hdef htm hfr hpre;simp only [List.length_cons,List.length_nil,Nat.reduceAdd,List.getElem?_toArray,List.getElem?_cons_zero,List.getElem?_cons_succ,Option.some.injEq] at hoo;subst hoo;have g19:a.tmps.getD 19 undef=.pointer (some ⟨w.heap.size,0,none⟩):=hpre 0 (by simp);have g20:a.tmps.getD 20 undef=.int .i64 s:=hpre 1 (by simp);obtain ⟨b19,g21⟩:∃ b,a.tmps.getD 21 undef=.slice (some ⟨b,0,none⟩) 0 0:=hpre 2 (by simp);have g22:a.tmps.getD 22 undef=.pointer (some ⟨w.heap.size,1,none⟩):=hpre 3 (by simp);have g23:a.tmps.getD 23 undef=.slice A1 n c1:=hpre 4 (by simp)
    obtain ⟨A22,c22,g24,_⟩:∃ A' c',a.tmps.getD 24 undef=.slice A' n c'/\_:=hpre 5 (by simp);obtain ⟨b23,g25,_⟩:∃ b,a.tmps.getD 25 undef=.slice (some ⟨b,0,none⟩) 0 0/\_:=hpre 6 (by simp);have g26:a.tmps.getD 26 undef=.pointer (some ⟨w.heap.size,2,none⟩):=hpre 7 (by simp);have g27:a.tmps.getD 27 undef=.slice A2 nr c2:=hpre 8 (by simp);obtain ⟨A26,c26,g28,_⟩:∃ A' c',a.tmps.getD 28 undef=.slice A' nr c'/\_:=hpre 9 (by simp);obtain ⟨A3,c3,A4,c4,g29,ho5,hor5,hsp5⟩:∃ A' c' A'' c'',a.tmps.getD 29 undef=.agg #[.int .i64 s,.slice A' n c',.slice A'' nr c'']/\Ow w5 W2.heap.size A' n c' gi/\OwR w5 W0.heap.size (.slice A'' nr c'') rs nr/\SpQ w5 W0.heap.size (.slice A'' nr c'') nr (fun g=>g<W2.heap.size):=hpre 10 (by simp)
    obtain ⟨X,g4,hrX,hloX⟩:∃ X,a.tmps.getD 4 undef=.pointer (some ⟨X,0,none⟩)/\w5.heap[X]? =some (.cells #[.int .i64 0,.slice none 0 0,.slice none 0 0] 26)/\W0.heap.size<=X:=hpre 11 (by simp);have h4:a.eval (.tmp 4)=.pointer (some ⟨X,0,none⟩):=g4;have h29:a.eval (.tmp 29)=.agg #[.int .i64 s,.slice A3 n c3,.slice A4 nr c4]:=g29;refine ⟨w5.setRow X #[.int .i64 s,.slice A3 n c3,.slice A4 nr c4],?_,?_⟩
    ·have hst:=run_storeVar_row (P:=Tryd.prog) w5 X 26 26 _ #[.int .i64 s,.slice A3 n c3,.slice A4 nr c4] hrX (Hi.out _ _ _ _ _ _ _) rfl (Hone.out _ _ _ _ _ _ _);unfold execOp;simp only [h4,h29,Instr.storeAt,Instr.sureAddr,Sem.run_bind,Sem.run_pure,Result.andThen_ok,hst]
    ·have key:=htm;simp only [List.foldl_cons,List.foldl_nil,g19,g20,g21,g22,g23,g24,g25,g26,g27,g28,g29,g4,List.setIfInBounds_toArray,List.set_cons_succ,List.set_cons_zero] at key;clear htm hfr hpre g19 g20 g21 g22 g23 g24 g25 g26 g27 g28 g29 g4 h4 h29;obtain ⟨tm,df⟩:=a
     dsimp only at key hdef
     subst key hdef;have hr5:=setRow_heap (w:=w5) X _ #[.int .i64 s,.slice A3 n c3,.slice A4 nr c4] 26 _ hrX;have ho6:=ho5.setX (cs':= #[.int .i64 s,.slice A3 n c3,.slice A4 nr c4]) hrX;have hor6:=hor5.setX (cs':= #[.int .i64 s,.slice A3 n c3,.slice A4 nr c4]) hrX;have hsp6:=hsp5.setX (cs':= #[.int .i64 s,.slice A3 n c3,.slice A4 nr c4]) hrX;have hB6:Below W0.heap.size W2 (w5.setRow X #[.int .i64 s,.slice A3 n c3,.slice A4 nr c4]):=setRow_below5 ((hb4.mono hlo2).trans (hb5.mono hlo4)) hloX;obtain ⟨w6,hw6⟩:∃ w6,w5.setRow X #[.int .i64 s,.slice A3 n c3,.slice A4 nr c4]=w6:=⟨_,rfl⟩
     rw [hw6] at hr5 ho6 hor6 hsp6 hB6 ⊢;clear hw6 ho5 hor5 hsp5 hrX;have HB6:=Lib.hid hB6;obtain ⟨t,rfl,hts,hnn,hn16,hoka⟩:=pv_grid hv hp.g.1;clear hnn hoka;have HInv:=Lib.hid (fun k=>evL_inv (s:=t) (n:=n) hv ho k);have hwrn:IntKind.i64.wrap ((n:Int)-1)=(n:Int)-1:=IntWalk.i64_in _ (by omega);obtain ⟨x0,x1,x2⟩:PBox w6 X (t:Int) A3 n c3 A4 nr c4:=⟨cell_of_row _ _ 0 _ _ (0,0) hr5,cell_of_row _ _ 1 _ _ (0,0) hr5,cell_of_row _ _ 2 _ _ (0,0) hr5⟩
     go_wp2
     clear x0 x1 x2
     go_loopw [6] (fun i wr=>∃ (k:Nat) (A7 A8:Option Addr) (c7 c8:Nat),2*k<=n+1/\i=.int .i64 k/\wr.heap[X]? =some (.cells #[.int .i64 (t:Int),.slice A7 n c7,.slice A8 nr c8] 26)/\Ow wr W2.heap.size A7 n c7 (evL (t:Int) n rs gi k)/\(OwR wr W0.heap.size (.slice A8 nr c8) rs nr/\SpQ wr W0.heap.size (.slice A8 nr c8) nr (fun g=>g<W2.heap.size))/\Below W0.heap.size W2 wr) (fun i _=>n-(intOf i).toNat)
     case atStart=>exact ⟨0,A3,A4,c3,c4,by omega,rfl,hr5,ho6,⟨hor6,hsp6⟩,hB6⟩
     case round=>
      obtain ⟨k,A7,A8,c7,c8,hk,rfl,hr7,ho7,⟨hor7,hsp7⟩,hb7⟩:=hrel;have hsX:=(Array.getElem?_eq_some_iff.1 hr7).1
      have hsW:W0.heap.size<=wr.heap.size:=by
       have q1:=hb7.size;omega
      have hwr0:IntKind.i64.wrap ((n:Int)-1-(k:Int))=(n:Int)-1-(k:Int):=IntWalk.i64_in _ (by omega)
      by_cases hlt:2*k+1<=n
      ·obtain ⟨L,hL⟩:∃ L,L=evL (t:Int) n rs gi k:=⟨_,rfl⟩;rw [<- hL] at ho7;have hLl:L.length=n:=(by rw [hL,evL_length];exact hp.g.1);have hiv:=HInv.out k;rw [<- hL] at hiv;obtain ⟨m,hm⟩:∃ m,m=n-1-k:=⟨_,rfl⟩;have hwr2:IntKind.i64.wrap ((n:Int)-1-(k:Int))=(m:Int):=(by rw [hwr0];omega);clear hwr0;have hltI:(k:Int)<=(m:Int):=(by omega);have hkn0:(k:Int)<(n:Int):=(by omega);have hmn0:(m:Int)<(n:Int):=(by omega);have hkn:k<n:=(by omega);have hmn:m<n:=(by omega);have hPk:PGs wr (t:Int) A7 n c7 wr.heap.size L A8 nr c8 wr.heap.size rs:=⟨ho7.rd,Nat.le_refl _,hm1,hor7.rd hrl,Nat.le_refl _,hp.rm⟩
       have HWo:=Lib.hid (specWithout (Bg:=wr.heap.size) (t:Int) A7 n c7 L A8 nr c8 k wr hPk.g hPk.gB hm1 hkn);have HWo2:=Lib.hid (fun w' A' c' B' (h:Rd w' B' A' n (L.set k 0)) (hB:B'<=w'.heap.size)=>specWithout (Bg:=B') (t:Int) A' n c' (L.set k 0) A8 nr c8 m w' h hB hm1 hmn);have HOn:=Lib.hid (fun w' (hb:Below wr.heap.size wr w') A' c' B' (h:Rd w' B' A' n ((L.set k 0).set m 0)) (hB:B'<=w'.heap.size)=>specOne (t:Int) A' n c' B' ((L.set k 0).set m 0) A8 nr c8 wr.heap.size rs w' ⟨h,hB,hm1,(hPk.below hb).r,(hPk.below hb).rB,hp.rm⟩);have HEv:=Lib.hid (show evL (t:Int) n rs gi (k+1)=if (decide (0<nth L k+nth L m)&&oneB (t:Int) n ((L.set k 0).set m 0) rs)=true then (L.set k 0).set m 0 else L by rw [evL,<-hL,<-hm])
       have a0:=gv_nth (pv_gv hiv.v).1 (show k<L.length by omega);have b0:=gv_nth (pv_gv hiv.v).1 (show m<L.length by omega);have ht4:(t:Int)<=4:=(by simp at hts;omega);obtain ⟨gx,rfl,_,_⟩:=ho7.form (show 0<n by omega);have hck:=(ho7.cell hkn).1;have hcm:=(ho7.cell hmn).1;have hgx:gx<wr.heap.size:=cell_lt hck;obtain ⟨xk,hxk⟩:∃ x,nth L k=x:=⟨_,rfl⟩;obtain ⟨xm,hxm⟩:∃ x,nth L m=x:=⟨_,rfl⟩;rw [hxk] at hck a0 HEv;rw [hxm] at hcm b0 HEv;have hwr3:IntKind.i64.wrap (xk+xm)=xk+xm:=IntWalk.i64_in _ (by omega);have HCells:=Lib.hid (fun w' (hb:Below wr.heap.size wr w')=>(⟨(hb.cell (p:=⟨gx,k,none⟩) hgx).trans hck,(hb.cell (p:=⟨gx,m,none⟩) hgx).trans hcm⟩:w'.cell? ⟨gx,k,none⟩=some (.int .i64 xk)/\w'.cell? ⟨gx,m,none⟩=some (.int .i64 xm)))
       have HX7:=Lib.hid (fun w' (hb:Below wr.heap.size wr w')=>show PBox w' X (t:Int) (some ⟨gx,0,none⟩) n c7 A8 nr c8 from ⟨cell_of_row _ _ 0 _ _ (0,0) ((hb.block X hsX).trans hr7),cell_of_row _ _ 1 _ _ (0,0) ((hb.block X hsX).trans hr7),cell_of_row _ _ 2 _ _ (0,0) ((hb.block X hsX).trans hr7)⟩);have Hr7:=Lib.hid (fun w' (hb:Below wr.heap.size wr w')=>(hb.block X hsX).trans hr7);have Hkeep:=Lib.hid (fun w' (hb:Below wr.heap.size wr w')=>(⟨ho7.below hb,⟨hor7.below hb,hsp7.below hb⟩,hb7.trans (hb.mono hsW)⟩:Ow w' W2.heap.size (some ⟨gx,0,none⟩) n c7 L/\(OwR w' W0.heap.size (.slice A8 nr c8) rs nr/\SpQ w' W0.heap.size (.slice A8 nr c8) nr (fun g=>g<W2.heap.size))/\Below W0.heap.size W2 w'))
       obtain ⟨x0,x1,x2⟩:=HX7.out _ (Below.refl _ _);have hW2r:W2.heap.size<=wr.heap.size:=hb7.size;have Hlt:=Lib.hid hlt;have Hk:=Lib.hid hk;clear hL hm hiv hPk ho7 hor7 hsp7 hb7 hck hcm hr7 hxk hxm hts hlt hLl
       go_wp2_with (first
        |(go_at_call 66;(with_reducible refine HWo.out.mono ?_);rintro e w8 ⟨A9,c9,rfl,ho9,hb9⟩;have hsr8:=hb9.size)
        |(go_at_call 66;(with_reducible refine (HWo2.out _ _ _ _ ho9.rd (Nat.le_refl _)).mono ?_);rintro e w9 ⟨AA,cA,rfl,hoA,hbA⟩;have hb9A:=step hb9 hbA;have hbY:Below wr.heap.size wr (w9.alloc (.cells #[.int .i64 (t:Int),.slice AA n cA,.slice A8 nr c8] 26)):=hb9A.alloc hb9A.size _;obtain ⟨y0,y1,y2⟩:=HX7.out _ hbY;obtain ⟨y3,y4⟩:=HCells.out _ hbY))
       obtain ⟨V,hV⟩:∃ V,w9.alloc (.cells #[.int .i64 (t:Int),.slice AA n cA,.slice A8 nr c8] 26)=V:=⟨_,rfl⟩;have hyb:=pbox_new w9 (t:Int) AA n cA A8 nr c8 26;have hb9V:Below w9.heap.size w9 V:=(by rw [<- hV];exact (Below.refl _ _).alloc (Nat.le_refl _) _);have hs9V:w9.heap.size<V.heap.size:=(by rw [<- hV];simp);rw [hV] at hyb hbY y0 y1 y2 y3 y4;rw [hV];have hVd:Below wr.heap.size wr V.drew:=hbY.drew;have hoV:Rd V.drew w9.heap.size AA n ((L.set k 0).set m 0):=hoA.rd.below (hb9V.drew);have HY:=Lib.hid (fun w' (hb:Below V.heap.size V w')=>hyb.below hs9V hb)
       have HoF:=Lib.hid (fun w' (hb:Below V.heap.size V w')=>(hoA.below hb9V).below hb);have HbY:=Lib.hid hbY;have HbA:=Lib.hid hb9A;obtain ⟨yb0,yb1,yb2⟩:=id hyb;clear hV hyb hoA ho9 hb9 hbA hb9V hb9A hbY
       by_cases hpos:0<xk+xm
       ·have HOV:=Lib.hid (HOn.out _ hVd AA cA w9.heap.size hoV (Nat.le_of_lt hs9V));have HKV:Hid (∀ w',Below V.heap.size V w'->(w'.cell? ⟨X,0,none⟩=some (.int .i64 (t:Int))/\w'.cell? ⟨X,1,none⟩=some (.slice (some ⟨gx,0,none⟩) n c7)/\w'.cell? ⟨X,2,none⟩=some (.slice A8 nr c8))/\(w'.cell? ⟨w9.heap.size,0,none⟩=some (.int .i64 (t:Int))/\w'.cell? ⟨w9.heap.size,1,none⟩=some (.slice AA n cA)/\w'.cell? ⟨w9.heap.size,2,none⟩=some (.slice A8 nr c8))/\w'.cell? ⟨gx,k,none⟩=some (.int .i64 xk)/\w'.cell? ⟨gx,m,none⟩=some (.int .i64 xm)):=Lib.hid (fun w' hb=>⟨HX7.out _ (step HbY.out hb),HY.out _ hb,HCells.out _ (step HbY.out hb)⟩)
        cases ho2:oneB (t:Int) n ((L.set k 0).set m 0) rs
        all_goals
         rw [ho2] at HOV HEv;have Hpos:=Lib.hid hpos
         go_region_held3 (fun w'=>(w'.cell? ⟨X,0,none⟩=some (.int .i64 (t:Int))/\w'.cell? ⟨X,1,none⟩=some (.slice (some ⟨gx,0,none⟩) n c7)/\w'.cell? ⟨X,2,none⟩=some (.slice A8 nr c8))/\(w'.cell? ⟨w9.heap.size,0,none⟩=some (.int .i64 (t:Int))/\w'.cell? ⟨w9.heap.size,1,none⟩=some (.slice AA n cA)/\w'.cell? ⟨w9.heap.size,2,none⟩=some (.slice A8 nr c8))/\w'.cell? ⟨gx,k,none⟩=some (.int .i64 xk)/\w'.cell? ⟨gx,m,none⟩=some (.int .i64 xm))
          (first|go_keep|exact HKV.out _ hb5)
          ((go_simp;go_at_call 65;(with_reducible refine HOV.out.mono ?_);rintro e wB ⟨rfl,hbB⟩;have hb5:Below V.heap.size V wB:=((Below.refl _ _).drew).trans hbB))
         have hb7B:=step HbY.out hb5;have hrB:=Hr7.out _ hb7B;obtain ⟨p0,p1,p2⟩:=HY.out _ hb5
        ·go_wp2
         go_roundw
         case rel=>
          obtain ⟨q1,q2,q3⟩:=Hkeep.out _ hb7B;have h1:=Hlt.out;exact ⟨k+1,some ⟨gx,0,none⟩,A8,c7,c8,by omega,by go_num,hrB,by rw [HEv.out];simpa using q1,q2,q3⟩
         case measure=>have:=Hlt.out;simp [intOf];omega
        ·go_wp2_with (refine wpList_store_row rfl 26 _ _ rfl X #[.int .i64 (t:Int),.slice AA n cA,.slice A8 nr c8] rfl rfl 26 #[.int .i64 (t:Int),.slice (some ⟨gx,0,none⟩) n c7,.slice A8 nr c8] hrB (Hi.out _ _ _ _ _ _ _) rfl (Hone.out _ _ _ _ _ _ _) ?_)
         go_roundw
         case rel=>
          obtain ⟨q1,⟨q2,q2'⟩,q3⟩:=Hkeep.out _ hb7B;have h1:=Hlt.out;have h2:evL (t:Int) n rs gi (k+1)=(L.set k 0).set m 0:=(by rw [HEv.out];simp [Hpos.out]);have h3:W2.heap.size<=w8.heap.size:=Nat.le_trans hW2r hsr8;exact ⟨k+1,AA,A8,cA,c8,by omega,by go_num,setRow_heap _ _ _ _ _ _ hrB,by rw [h2];exact ((HoF.out _ hb5).mono h3).setX hrB,⟨q2.setX hrB,q2'.setX hrB⟩,setRow_below5 q3 hloX⟩
         case measure=>have:=Hlt.out;simp [intOf];omega
       ·have hnp:decide (0<xk+xm)=false:=(by rw [decide_eq_false_iff_not];exact hpos);have h2:=Lib.hid (show evL (t:Int) n rs gi (k+1)=L by rw [HEv.out,hnp];simp);have hdp:¬ (xk+xm>0):=hpos
        go_quiet (fail)
        go_wp2
        go_roundw
        case rel=>
         have h1:=Hlt.out;exact ⟨k+1,some ⟨gx,0,none⟩,A8,c7,c8,by omega,by go_num,Hr7.out _ (below_drewN HbY.out _),by rw [h2.out];exact (Hkeep.out _ (below_drewN HbY.out _)).1,(Hkeep.out _ (below_drewN HbY.out _)).2⟩
        case measure=>have:=Hlt.out;simp [intOf];omega
      ·have hltI:¬ (k:Int)<=(n:Int)-1-(k:Int):=(by omega);have hkk:k=(n+1)/2:=(by omega);have hq7:=(hb7.block (w.heap.size+1) (by omega)).trans hq2;obtain ⟨x0,x1,x2⟩:PBox wr X (t:Int) A7 n c7 A8 nr c8:=⟨cell_of_row _ _ 0 _ _ (0,0) hr7,cell_of_row _ _ 1 _ _ (0,0) hr7,cell_of_row _ _ 2 _ _ (0,0) hr7⟩;have hb0e:Below w.heap.size w wr:=HB2.out.trans (hb7.mono (by omega));have Hkk:=Lib.hid hkk;have Hb0e:=Lib.hid hb0e;clear hkk hb0e hk hlt
       go_wp2_with (refine wpList_store_row rfl 26 _ _ rfl (w.heap.size+1) #[.int .i64 (t:Int),.slice A7 n c7,.slice A8 nr c8] rfl rfl 26 #[.int .i64 0,.slice none 0 0,.slice none 0 0] hq7 (Hi.out _ _ _ _ _ _ _) rfl (Hone.out _ _ _ _ _ _ _) ?_)
       have hBe:Below w.heap.size w (wr.setRow (w.heap.size+1) #[.int .i64 (t:Int),.slice A7 n c7,.slice A8 nr c8]):=setRow_below5 Hb0e.out (by omega);rw [Hkk.out] at ho7;exact bodyPost_ret (v:=.tuple #[.agg #[.int .i64 (t:Int),.slice A7 n c7,.slice A8 nr c8],.bool true]) (results_row_tmp (by rfl) _ _ (w.heap.size+1) 26 _ (0,0) _ _ rfl rfl (setRow_heap _ _ _ _ _ _ hq7) Tryd.underlying26 rfl (Hi.out _ _ _ _ _ _ _)) rfl ⟨hBe,.inr ⟨ht,A7,c7,A8,c8,W2.heap.size,rfl,ho7.setX hq7,by omega,(hor7.setX hq7).mono (by omega),(hsp7.setX hq7).mono (by omega)⟩⟩
end Go.Proofs.YtkeoflnmbcdmfaaDoor
set_option maxRecDepth 8000
namespace Go.Proofs.YtkeoflnmbcdmfaaDoor
open Go.ChangeShapes Go.WideShapes Go.ChangeAt Go.RowKit
theorem redC_two {s:Int} {n k m:Nat} {g cs:List Int} {rs:List RuleM} (hk:0<=nth g k) (hm:0<=nth g m) (h0:nth cs 0=k) (h1:nth cs 1=m):redC s n g rs cs 2=(decide (0<nth g k+nth g m)&&oneB s n ((g.set k 0).set m 0) rs):=by
 simp only [redC,anyN,setL,h0,h1,Bool.false_or,Int.toNat_natCast]
 congr 1
 rw [Bool.eq_iff_iff,Bool.or_eq_true,bne_iff_ne,bne_iff_ne,decide_eq_true_iff];omega
theorem rd_two {w:World} {x y:Int}:Rd (w.alloc (.cells #[.int .i64 x,.int .i64 y] 3)) (w.heap.size+1) (some ⟨w.heap.size,0,none⟩) 2 [x,y]:=by
 refine ⟨rfl,fun _=>⟨w.heap.size,0,rfl,Nat.lt_succ_self _,fun k hk=>?_⟩⟩
 have:k=0\/k=1:=by omega
 rcases this with rfl|rfl
 ·rw [cell_of_row _ _ _ _ _ (0,0) (heap_alloc_new w (.cells #[.int .i64 x,.int .i64 y] 3))];rfl
 ·rw [cell_of_row _ _ _ _ _ (0,0) (heap_alloc_new w (.cells #[.int .i64 x,.int .i64 y] 3))];rfl
set_option maxHeartbeats 4000000 in
theorem implMakeEven (s:Int) (Ag:Option Addr) (n cg Bg:Nat) (gi:List Int) (Ar:Option Addr) (nr cr Br:Nat) (rs:List RuleM) (w:World) (hp:PGc w s Ag n cg Bg gi Ar nr cr Br rs) (hT:Tz w):
 Calls Tryd.prog 38 #[.agg #[.int .i64 s,.slice Ag n cg,.slice Ar nr cr]] w (MkPost (pvB s gi rs&&oneB s n gi rs) s n (evL s n rs gi ((n+1)/2)) nr rs w):=by
 have hx0:=pbox_new w s Ag n cg Ar nr cr 26;have hb0:Below w.heap.size w (w.alloc (.cells #[.int .i64 s,.slice Ag n cg,.slice Ar nr cr] 26)):=(Below.refl _ _).alloc (Nat.le_refl _) _
 have hs0:w.heap.size<(w.alloc (.cells #[.int .i64 s,.slice Ag n cg,.slice Ar nr cr] 26)).heap.size:=by simp
 obtain ⟨V,hV⟩:∃ V,V=(w.alloc (.cells #[.int .i64 s,.slice Ag n cg,.slice Ar nr cr] 26)).alloc (.cells #[.int .i64 0,.slice none 0 0,.slice none 0 0] 26):=⟨_,rfl⟩
 have hbV:Below w.heap.size w V:=by rw [hV];exact hb0.alloc hb0.size _
 have hsV:V.heap.size=w.heap.size+1+1:=by rw [hV];simp
 have hxV:PBox V w.heap.size s Ag n cg Ar nr cr:=by
  rw [hV];exact hx0.below hs0 ((Below.refl _ _).alloc (Nat.le_refl _) _)
 have hrow:V.heap[w.heap.size+1]? =some (.cells #[.int .i64 0,.slice none 0 0,.slice none 0 0] 26):=by rw [hV];exact heap_alloc2_new w _ _
 have Hone:=Lib.hid puz_one;have Hi:=Lib.hid puz_info;have HM:=Lib.hid (makeable_any s Ag n cg Bg gi Ar nr cr Br rs V (hp.below hbV) (hT.below hT.lt hbV));have HX:=Lib.hid (fun (w':World) (hb:Below V.heap.size V w')=>(⟨hxV.below (by omega) hb,(hb.block (w.heap.size+1) (by omega)).trans hrow⟩:PBox w' w.heap.size s Ag n cg Ar nr cr/\w'.heap[w.heap.size+1]? =some (.cells #[.int .i64 0,.slice none 0 0,.slice none 0 0] 26)));have HV:=Lib.hid hV;have HbV:=Lib.hid hbV;obtain ⟨z0,z1,z2⟩:=id hxV;cases hok:(pvB s gi rs&&oneB s n gi rs)
 ·rw [hok] at HM;clear hV hx0 hb0 hs0 hp hT hxV hrow hok hbV
  go_enter Tryd.func38,Tryd.ntmps38
  go_wp2_with (first
   |(go_at_call 63;rw [<- HV.out];refine HM.out.mono ?_;rintro e w1 ⟨rfl,hb1⟩;obtain ⟨_,hr1⟩:=HX.out _ hb1)
   |(refine wpList_store_row rfl 26 _ _ rfl (w.heap.size+1) #[.int .i64 0,.slice none 0 0,.slice none 0 0] rfl rfl 26 #[.int .i64 0,.slice none 0 0,.slice none 0 0] hr1 (Hi.out _ _ _ _ _ _ _) rfl (Hone.out _ _ _ _ _ _ _) ?_))
  have hBe:Below w.heap.size w (w1.setRow (w.heap.size+1) #[.int .i64 0,.slice none 0 0,.slice none 0 0]):=setRow_below5 (HbV.out.trans (hb1.mono HbV.out.size)) (by omega);exact bodyPost_ret (v:=.tuple #[.agg #[.int .i64 0,.slice none 0 0,.slice none 0 0],.bool false]) (results_row_tmp (by rfl) _ _ (w.heap.size+1) 26 _ (0,0) _ _ rfl rfl (setRow_heap _ _ _ _ _ _ hr1) Tryd.underlying26 rfl (Hi.out _ _ _ _ _ _ _)) rfl ⟨hBe,.inl ⟨by trivial,rfl⟩⟩
 ·rw [hok] at HM;rw [Bool.and_eq_true] at hok;obtain ⟨hv,ho1⟩:=hok;obtain ⟨t,rfl,hs,hnn,hn16,_⟩:=pv_grid hv hp.g.1
  have hn:n=t*t:=by simp at hs;rcases hs with rfl|rfl|rfl<;>omega
  have hn0:0<n:=by simp at hs;rcases hs with rfl|rfl|rfl<;>omega
  have hgl:=hp.g.1;have hrl:=hp.r.1
  have hnr:nr<=20:=by have:=(pv_gv hv).2.1;omega
  have hL:∀ i,i<nr->0<(rat rs i).xs.length:=fun i hi=>(rv_cells ((pv_gv hv).2.2 i (by omega))).1
  have HC:=Lib.hid (fun (w':World) (hb:Below w.heap.size w w')=>copied_any (t:Int) Ag n cg Bg gi Ar nr cr Br rs w' (hp.below hb).rd hn0 (by omega) hL);have HInv:=Lib.hid (fun k=>evL_inv (s:=t) (n:=n) hv ho1 k);have HTz:=Lib.hid (fun (w':World) (hb:Below w.heap.size w w')=>hT.below hT.lt hb);have HGl:=Lib.hid hgl;have HRl:=Lib.hid hrl;clear hV hx0 hb0 hs0 hp hT hxV hrow hbV hL hs hnn hn hgl hrl hv ho1
  go_enter Tryd.func38,Tryd.ntmps38
  go_wp2_with (first
   |(go_at_call 63;rw [<- HV.out];refine HM.out.mono ?_;rintro e w1 ⟨rfl,hb1⟩;obtain ⟨⟨y0,y1,y2⟩,_⟩:=HX.out _ hb1;have h01:=HbV.out.trans (hb1.mono HbV.out.size))
   |(go_at_call 67;refine (HC.out _ h01).mono ?_;rintro e w3 ⟨A3,c3,g,rfl,hown,hb3⟩;have hb13:=step hb1 hb3;have hbX:Below V.heap.size V (w3.alloc (.cells #[.int .i64 (t:Int),.slice A3 n c3,.slice (some ⟨g,0,none⟩) nr nr] 26)):=hb13.alloc hb13.size _;obtain ⟨⟨x0,x1,x2⟩,_⟩:=HX.out _ hbX))
  have hrX:=heap_alloc_new w3 (.cells #[.int .i64 (t:Int),.slice A3 n c3,.slice (some ⟨g,0,none⟩) nr nr] 26);have hownX:=hown.below ((Below.refl w3.heap.size w3).alloc (Nat.le_refl _) (.cells #[.int .i64 (t:Int),.slice A3 n c3,.slice (some ⟨g,0,none⟩) nr nr] 26));have hV1:=hb1.size;have hV3:=hb3.size;have hbX3:Below w3.heap.size w3 (w3.alloc (.cells #[.int .i64 (t:Int),.slice A3 n c3,.slice (some ⟨g,0,none⟩) nr nr] 26)):=(Below.refl _ _).alloc (Nat.le_refl _) _;have Hb13:=Lib.hid hb13
  have hrXd:∀ q,((w3.alloc (.cells #[.int .i64 (t:Int),.slice A3 n c3,.slice (some ⟨g,0,none⟩) nr nr] 26)).drewN q).heap[w3.heap.size]? =some (.cells #[.int .i64 (t:Int),.slice A3 n c3,.slice (some ⟨g,0,none⟩) nr nr] 26):=fun q=>hrX
  clear y0 y1 y2 z0 z1 z2 hbX hown hb3 hb1 h01 hb13;have hwrn:IntKind.i64.wrap ((n:Int)-1)=(n:Int)-1:=IntWalk.i64_in _ (by omega)
  go_quiet (fail)
  go_wp2
  go_loopw [5,6] (fun i l wr=>∃ (k:Nat) (A7:Option Addr) (c7:Nat) (y:Int),2*k<=n+1/\i=.int .i64 k/\l=.int .i64 y/\y=(n:Int)-1-k/\wr.heap[w3.heap.size]? =some (.cells #[.int .i64 (t:Int),.slice A7 n c7,.slice (some ⟨g,0,none⟩) nr nr] 26)/\OwnP wr w1.heap.size A7 n c7 (evL (t:Int) n rs gi k) g nr rs/\Below w3.heap.size w3 wr) (fun i _ _=>n-(intOf i).toNat)
  case atStart=>exact ⟨0,A3,c3,_,by omega,rfl,rfl,by omega,(hrXd _),(hownX.below (below_drewN (Below.refl _ _) _)),hbX3.trans ((below_drewN (Below.refl _ _) _).mono hbX3.size)⟩
  case round=>
   obtain ⟨k,A7,c7,y,hk,rfl,rfl,hy,hr7,ho7,hb7⟩:=hrel;obtain ⟨x0,x1,x2⟩:PBox wr w3.heap.size (t:Int) A7 n c7 (some ⟨g,0,none⟩) nr nr:=⟨cell_of_row _ _ 0 _ _ (0,0) hr7,cell_of_row _ _ 1 _ _ (0,0) hr7,cell_of_row _ _ 2 _ _ (0,0) hr7⟩;have hsX:w3.heap.size<wr.heap.size:=(Array.getElem?_eq_some_iff.1 hr7).1
   by_cases hlt:2*k+1<=n
   ·obtain ⟨m,rfl⟩:=Int.eq_ofNat_of_zero_le (show 0<=y by omega);have hltI:(k:Int)<=(m:Int):=(by omega);have hmm:m=n-1-k:=(by omega);have hwr1:IntKind.i64.wrap ((k:Int)+1)=(k:Int)+1:=IntWalk.i64_in _ (by omega);have hwr2:IntKind.i64.wrap ((m:Int)-1)=(m:Int)-1:=IntWalk.i64_in _ (by omega);have hbk:Below wr.heap.size wr (wr.alloc (.cells #[.int .i64 (k:Int),.int .i64 (m:Int)] 3)):=(Below.refl _ _).alloc (Nat.le_refl _) _;have hpk:=(ho7.pgc (s:=(t:Int)) (by omega) HRl.out (by omega)).below hbk;have hbw:Below w.heap.size w (wr.alloc (.cells #[.int .i64 (k:Int),.int .i64 (m:Int)] 3)):=HbV.out.trans ((Hb13.out.trans ((step hb7 hbk).mono Hb13.out.size)).mono HbV.out.size)
    have HRb:=Lib.hid (reducedBy_any (t:Int) A7 n c7 wr.heap.size (evL (t:Int) n rs gi k) (some ⟨g,0,none⟩) nr nr wr.heap.size rs (some ⟨wr.heap.size,0,none⟩) 2 2 (wr.heap.size+1) [(k:Int),(m:Int)] (wr.alloc (.cells #[.int .i64 (k:Int),.int .i64 (m:Int)] 3)) hpk (HInv.out k).v (by omega) (HTz.out _ hbw) rd_two (by simp) (by omega) (fun i hi=>by
     have:i=0\/i=1:=(by omega)
     rcases this with rfl|rfl
     ·show 0<=(k:Int)/\(k:Int)<n
      omega
     ·show 0<=(m:Int)/\(m:Int)<n
      omega))
    have hlk:(evL (t:Int) n rs gi k).length=n:=(evL_length _ _ _ _ k).trans HGl.out
    have HEv:=Lib.hid (show evL (t:Int) n rs gi (k+1)=if redC (t:Int) n (evL (t:Int) n rs gi k) rs [(k:Int),(m:Int)] 2=true then ((evL (t:Int) n rs gi k).set k 0).set m 0 else evL (t:Int) n rs gi k by
     rw [redC_two (gv_nth (pv_gv (HInv.out k).v).1 (show k<_ by omega)).1 (gv_nth (pv_gv (HInv.out k).v).1 (show m<_ by omega)).1 rfl rfl,evL,<-hmm])
    have Hbk:=Lib.hid hbk;have Ho7:=Lib.hid ho7;have Hb7:=Lib.hid hb7;have Hlt:=Lib.hid hlt;have Hy:=Lib.hid hy;clear hpk hbw hlk ho7 hb7 hbk hmm hy hlt hk
    go_wp2_with (first
     |(go_at_call 68;refine HRb.out.mono ?_;rintro e w8 ⟨⟨A8,c8,rfl,hcase⟩,hb8⟩;have hb78:=step Hbk.out hb8;have hr8:=(hb78.block w3.heap.size hsX).trans hr7)
     |(refine wpList_store_row rfl 26 _ _ rfl w3.heap.size #[.int .i64 (t:Int),.slice A8 n c8,.slice (some ⟨g,0,none⟩) nr nr] rfl rfl 26 #[.int .i64 (t:Int),.slice A7 n c7,.slice (some ⟨g,0,none⟩) nr nr] hr8 (Hi.out _ _ _ _ _ _ _) rfl (Hone.out _ _ _ _ _ _ _) ?_))
    have hB8:=step Hb7.out hb78
    have hfin:OwnP w8 w1.heap.size A8 n c8 (evL (t:Int) n rs gi (k+1)) g nr rs:=by
     rcases hcase with ⟨h1,rfl,rfl⟩|⟨h1,h2⟩
     ·rw [HEv.out,h1];simpa using Ho7.out.below hb78
     ·rw [HEv.out,h1,if_pos rfl];exact Ho7.out.fresh hb78 (h2.mono Hbk.out.size) (Nat.le_trans hV3 (Nat.le_of_lt hsX))
    go_roundw
    case rel=>
     have q1:=Hlt.out;have q2:=Hy.out;exact ⟨k+1,A8,c8,_,by omega,by go_num,rfl,by omega,setRow_heap _ _ _ _ _ _ hr8,hfin.setX hr8,setRow_below5 hB8 (Nat.le_refl _)⟩
    case measure=>have q1:=Hlt.out;simp [intOf];omega
   ·have hltI:¬ (k:Int)<=y:=(by omega);have hkk:k=(n+1)/2:=(by omega);have hbV7:Below V.heap.size V wr:=step Hb13.out hb7;have hq7:=(HX.out _ hbV7).2;rw [hkk] at ho7;have Ho7:=Lib.hid ho7;have Hb7:=Lib.hid hbV7;clear ho7 hb7 hbV7 hkk hlt hk hy
    go_wp2_with (refine wpList_store_row rfl 26 _ _ rfl (w.heap.size+1) #[.int .i64 (t:Int),.slice A7 n c7,.slice (some ⟨g,0,none⟩) nr nr] rfl rfl 26 #[.int .i64 0,.slice none 0 0,.slice none 0 0] hq7 (Hi.out _ _ _ _ _ _ _) rfl (Hone.out _ _ _ _ _ _ _) ?_)
    have hBe:Below w.heap.size w (wr.setRow (w.heap.size+1) #[.int .i64 (t:Int),.slice A7 n c7,.slice (some ⟨g,0,none⟩) nr nr]):=setRow_below5 (HbV.out.trans (Hb7.out.mono HbV.out.size)) (by omega);exact bodyPost_ret (v:=.tuple #[.agg #[.int .i64 (t:Int),.slice A7 n c7,.slice (some ⟨g,0,none⟩) nr nr],.bool true]) (results_row_tmp (by rfl) _ _ (w.heap.size+1) 26 _ (0,0) _ _ rfl rfl (setRow_heap _ _ _ _ _ _ hq7) Tryd.underlying26 rfl (Hi.out _ _ _ _ _ _ _)) rfl ⟨hBe,.inr ⟨by trivial,A7,c7,g,rfl,(Ho7.out.setX hq7).mono (by omega)⟩⟩
end Go.Proofs.YtkeoflnmbcdmfaaDoor
set_option maxRecDepth 8000
namespace Go.Proofs.YtkeoflnmbcdmfaaDoor
open Go.ChangeShapes Go.WideShapes Go.ChangeAt Go.RowKit
structure Mv (G R:Nat) (W Y:World):Prop where
 os:Y.os=W.os
 tape:Y.tape=W.tape
 output:Y.output=W.output
 size:W.heap.size<=Y.heap.size
 same:∀ k,k<W.heap.size->k≠G->k≠R->Y.heap[k]? =W.heap[k]?
theorem Mv.below {G R:Nat} {W Y Z:World} (h:Mv G R W Y) (hb:Below Y.heap.size Y Z):Mv G R W Z:=⟨hb.os.trans h.os,hb.tape.trans h.tape,hb.output.trans h.output,Nat.le_trans h.size hb.size,fun k hk h1 h2=>(hb.block k (Nat.lt_of_lt_of_le hk h.size)).trans (h.same k hk h1 h2)⟩
theorem Mv.grown {G R X:Nat} {W Y Z:World} (h:Mv G R W Y) (hg:Y.grownBy Z (some X)) (hX:X=G\/X=R\/W.heap.size<=X):Mv G R W Z:=⟨hg.os.trans h.os,hg.tape.trans h.tape,hg.output.trans h.output,Nat.le_trans h.size hg.size,fun k hk h1 h2=>(hg.block k (Nat.lt_of_lt_of_le hk h.size) (fun e=>by have:=Option.some.inj e;omega)).trans (h.same k hk h1 h2)⟩
theorem rd_mv {W Y:World} {G R B n:Nat} {A:Option Addr} {xs:List Int} (h:Rd W B A n xs) (hr:Mv G R W Y) (hne:∀ b off,A=some ⟨b,off,none⟩->b≠G/\b≠R) (hB:B<=W.heap.size):Rd Y B A n xs:=
 ⟨h.1,fun hn=>by
   obtain ⟨b,off,e,hl,hc⟩:=h.2 hn;obtain ⟨h1,h2⟩:=hne b off e
   exact ⟨b,off,e,hl,fun k hk=>(World.cell?_of_block (a:=⟨b,off+k,none⟩) (hr.same b (by omega) h1 h2)).trans (hc k hk)⟩⟩
theorem owR_mv {W Y:World} {G R lo k:Nat} {v:Value} {rs:List RuleM} (h:OwR W lo v rs k) (hr:Mv G R W Y) (hG:G<lo) (hR:R<lo):OwR Y lo v rs k:=by
 obtain ⟨vs,⟨hv,hcase⟩,hin⟩:=h;refine ⟨vs,⟨hv,?_⟩,fun i hi=>?_⟩
 ·rcases hcase with h1|⟨g,cap,cur,hv,hlo,hg,h1⟩
  ·exact .inl h1
  ·exact .inr ⟨g,cap,cur,hv,hlo,(hr.same g (Array.getElem?_eq_some_iff.1 hg).1 (by omega) (by omega)).trans hg,h1⟩
 ·obtain ⟨A',c',e0,e1,e2,e3,e4⟩:=hin i hi;refine ⟨A',c',e0,e1,e2,⟨e3.1,?_⟩,e4⟩
  rcases e3.2 with h1|⟨g,cap,cur,hv,hlo,hg,h1⟩
  ·exact .inl h1
  ·exact .inr ⟨g,cap,cur,hv,hlo,(hr.same g (Array.getElem?_eq_some_iff.1 hg).1 (by omega) (by omega)).trans hg,h1⟩
set_option maxHeartbeats 4000000 in
theorem draw_DrawMakeEven (A:Option Addr) (n c:Nat) (bs:List Int) (w:World) (h:Code_ w A n c bs):Calls Tryd.prog 37 #[.slice A n c] w (DrawnP w):=by
 have Hone:=Lib.hid puz_one;have Hi:=Lib.hid puz_info;have h1:=h.1.alloc_ (.cells #[.int .i64 0,.slice none 0 0,.slice none 0 0] 26);obtain ⟨w0,hW⟩:∃ w0,w0=w.alloc (.cells #[.int .i64 0,.slice none 0 0,.slice none 0 0] 26):=⟨_,rfl⟩;rw [<- hW] at h1
 have hRw:w.heap.size<w0.heap.size:=by rw [hW];simp
 have hb00:Below w.heap.size w w0:=by rw [hW];exact (Below.refl _ _).alloc (Nat.le_refl _) _
 have hR0:w0.heap[w.heap.size]? =some (.cells #[.int .i64 0,.slice none 0 0,.slice none 0 0] 26):=by rw [hW];exact heap_alloc_new w _
 have HW:=Lib.hid hW;clear hW
 go_enter Tryd.func37,Tryd.ntmps37
 go_wp2_with fail
 rw [<- HW.out];refine (specOpen A c n bs w0 h1 h.2.1 h.2.2).mono ?_;rintro e w1 ⟨rfl,hr,hb⟩;have hR1:=(hb.block w.heap.size hRw).trans hR0;have hG1:=hr.lt
 go_wp2_with fail
 refine (l20Puzzle_any w0.heap.size w0.heap.size 0 12 w1 hr (Nat.le_refl _) (by omega) (by omega)).mono ?_;rintro e w2 ⟨s,A1,n1,c1,gi,A2,nr,c2,rs,rfl,s2,s4,hrd,hn16,hlo,hR,hl,hnr,hr2,hg,_⟩;have h12:=hg.size;have hs01:=hb.size;have hG2:=hr2.lt;have hx0:=pbox_new w2 s A1 n1 c1 A2 nr c2 26;have hbA:Below w2.heap.size w2 (w2.alloc (.cells #[.int .i64 s,.slice A1 n1 c1,.slice A2 nr c2] 26)):=(Below.refl _ _).alloc (Nat.le_refl _) _
 have hsA:(w2.alloc (.cells #[.int .i64 s,.slice A1 n1 c1,.slice A2 nr c2] 26)).heap.size=w2.heap.size+1:=by simp
 have hrow:(w2.alloc (.cells #[.int .i64 s,.slice A1 n1 c1,.slice A2 nr c2] 26)).heap[w2.heap.size]? =some (.cells #[.int .i64 s,.slice A1 n1 c1,.slice A2 nr c2] 26):=heap_alloc_new _ _;have hrA:=hr2.alloc (show w0.heap.size<=w2.heap.size by omega) (.cells #[.int .i64 s,.slice A1 n1 c1,.slice A2 nr c2] 26);obtain ⟨W,hW2⟩:∃ W,w2.alloc (.cells #[.int .i64 s,.slice A1 n1 c1,.slice A2 nr c2] 26)=W:=⟨_,rfl⟩;rw [hW2] at hx0 hbA hsA hrow hrA;have hp:PGs W s A1 n1 c1 w2.heap.size gi A2 nr c2 w2.heap.size rs:=⟨hrd.below hbA,hbA.size,by omega,(OwR.rd hl hR).below hbA,hbA.size,by omega⟩
 have HSF:=specSolveFirst _ _ _ _ _ _ _ _ _ _ _ _ hp;obtain ⟨bb,hbb⟩:∃ bb,bb=sfB s n1 gi rs:=⟨_,rfl⟩;obtain ⟨FL,hFL⟩:∃ FL,FL=sfL s n1 gi rs:=⟨_,rfl⟩;rw [<- hbb,<-hFL] at HSF;have HSF:=Lib.hid HSF;have HW2:=Lib.hid hW2;have hMv:Mv w0.heap.size w.heap.size w2 W:=⟨hbA.os,hbA.tape,hbA.output,hbA.size,fun k hk _ _=>hbA.block k hk⟩
 have HF:=Lib.hid (fun Y A' c' (L:List Int) (hm:Mv w0.heap.size w.heap.size w2 Y) (hd:Rd Y Y.heap.size A' n1 L)=>show DrawnP w (.returned (.agg #[.int .i64 s,.slice A' n1 c',.slice A2 nr c2])) Y from by
  refine ⟨s,A',n1,c',L,A2,nr,c2,rs,rfl,s2,s4,hd,hn16,(owR_mv hR hm (by omega) (by omega)).mono (by omega),hl,hnr,?_⟩;have hb17:Below w.heap.size w w1:=hb00.trans (hb.mono hb00.size)
  exact ⟨hm.os.trans (hg.os.trans hb17.os),hm.tape.trans (hg.tape.trans hb17.tape),hm.output.trans (hg.output.trans hb17.output),Nat.le_trans (Nat.le_trans hb17.size hg.size) hm.size,fun j hj=>((hm.same j (by omega) (by omega) (by omega)).trans (hg.block j (by omega) (fun e=>by have:=Option.some.inj e;omega))).trans (hb17.block j hj)⟩)
 have HRw:=Lib.hid (fun Y (hm:Mv w0.heap.size w.heap.size w2 Y)=>(rd_mv hrd hm (fun b off e=>by have:=hlo b off e;omega) (Nat.le_refl _)).more hm.size);have hR2:w2.heap[w.heap.size]? =some (.cells #[.int .i64 0,.slice none 0 0,.slice none 0 0] 26):=(hg.block w.heap.size (by omega) (fun e=>by have:=Option.some.inj e;omega)).trans hR1;have hRW:=(hbA.block w.heap.size (by omega)).trans hR2;clear hrd hR hlo hr hr2 hg hW2 hp hbb hFL hR1 hR2 hR0 hb hb00 h1
 go_wp2_with fail
 rw [HW2.out];refine HSF.out.mono ?_;rintro e w3 ⟨Ax,mx,cx,rfl,hmx,hox,hb3⟩;have hrow3:=(hb3.block w2.heap.size (by omega)).trans hrow;have hR3:=(hb3.block w.heap.size (by omega)).trans hRW;have hr3:Rdr w3 w0.heap.size w0.heap.size (0+800):=hrA.below hb3 (by omega);have hM3:=hMv.below hb3;have hs3:=hb3.size;clear hrow hRW hrA;cases bb
 ·obtain ⟨p0,p1,p2⟩:PBox w3 w2.heap.size s A1 n1 c1 A2 nr c2:=⟨cell_of_row _ _ 0 _ _ (0,0) hrow3,cell_of_row _ _ 1 _ _ (0,0) hrow3,cell_of_row _ _ 2 _ _ (0,0) hrow3⟩
  go_wp2_with (refine wpList_store_row rfl 26 _ _ rfl w.heap.size #[.int .i64 s,.slice A1 n1 c1,.slice A2 nr c2] rfl rfl 26 #[.int .i64 0,.slice none 0 0,.slice none 0 0] hR3 (Hi.out _ _ _ _ _ _ _) rfl (Hone.out _ _ _ _ _ _ _) ?_)
  have hM:Mv w0.heap.size w.heap.size w2 (w3.setRow w.heap.size #[.int .i64 s,.slice A1 n1 c1,.slice A2 nr c2]):=hM3.grown grown_row (.inr (.inl rfl));exact bodyPost_ret (v:=.agg #[.int .i64 s,.slice A1 n1 c1,.slice A2 nr c2]) (results_cell_row (by rfl) _ _ w.heap.size 26 _ (0,0) _ rfl (setRow_heap _ _ _ _ _ _ hR3) Tryd.underlying26 rfl (Hi.out _ _ _ _ _ _ _)) rfl (HF.out _ _ _ _ hM (HRw.out _ hM))
 ·have hmn:=hmx (by trivial);subst hmn;have Hox:=Lib.hid hox;clear hox
  go_wp2_with fail
  refine (pick_any w0.heap.size w0.heap.size _ 2 w3 hr3 (Nat.le_refl _) (by omega)).mono ?_;rintro e w4 ⟨v,rfl,⟨v0,v1,_⟩,_,hg4⟩;have v1:=v1 (by omega);have hrow4:=(hg4.block w2.heap.size (by omega) (fun e=>by have:=Option.some.inj e;omega)).trans hrow3;have hR4:=(hg4.block w.heap.size (by omega) (fun e=>by have:=Option.some.inj e;omega)).trans hR3;have hM4:=hM3.grown hg4 (.inl rfl);have hs4:=hg4.size;have q0:=cell_of_row _ _ 0 _ _ (0,0) hrow4;have q1:=cell_of_row _ _ 1 _ _ (0,0) hrow4;have q2:=cell_of_row _ _ 2 _ _ (0,0) hrow4;have f1:=frozen_of_row _ _ 1 _ _ hrow4
  have hv:v=0\/v=1:=by omega
  rcases hv with rfl|rfl
  ·have e1:=heap_setCell_same w4 w2.heap.size 1 _ _ (.slice Ax mx cx) hrow4;have hR5:=(heap_setCell_other w4 ⟨w2.heap.size,1,none⟩ w.heap.size (.slice Ax mx cx) (fun e=>by have e':w.heap.size=w2.heap.size:=e;omega)).trans hR4;have hg5:w4.grownBy (w4.setCell ⟨w2.heap.size,1,none⟩ (.slice Ax mx cx)) (some w2.heap.size):=grown_set;obtain ⟨w5,hw5⟩:∃ w5,w4.setCell ⟨w2.heap.size,1,none⟩ (.slice Ax mx cx)=w5:=⟨_,rfl⟩;rw [hw5] at e1 hR5 hg5;obtain ⟨u0,u1,u2⟩:PBox w5 w2.heap.size s Ax mx cx A2 nr c2:=⟨cell_of_row _ _ 0 _ _ (0,0) e1,cell_of_row _ _ 1 _ _ (0,0) e1,cell_of_row _ _ 2 _ _ (0,0) e1⟩
   have hs5:=hg5.size;have hM5:=hM4.grown hg5 (.inr (.inr (Nat.le_refl _)));have ho4:=Ow.far Hox.out hg4 (fun b hb e=>by have:=Hox.out.own_lo b hb;have:=Option.some.inj e;omega);have ho5:=Ow.far ho4 hg5 (fun b hb e=>by have:=ho4.own_lo b hb;have:=Option.some.inj e;omega);clear hrow4 hrow3 hR4 hR3
   go_wp2_with (refine wpList_store_row rfl 26 _ _ rfl w.heap.size #[.int .i64 s,.slice Ax mx cx,.slice A2 nr c2] rfl rfl 26 #[.int .i64 0,.slice none 0 0,.slice none 0 0] hR5 (Hi.out _ _ _ _ _ _ _) rfl (Hone.out _ _ _ _ _ _ _) ?_)
   have hM:Mv w0.heap.size w.heap.size w2 (w5.setRow w.heap.size #[.int .i64 s,.slice Ax mx cx,.slice A2 nr c2]):=hM5.grown grown_row (.inr (.inl rfl));have ho6:=Ow.far ho5 (grown_row (w:=w5) (g:=w.heap.size) (cs:= #[.int .i64 s,.slice Ax mx cx,.slice A2 nr c2])) (fun b hb e=>by have:=ho5.own_lo b hb;have:=Option.some.inj e;omega);exact bodyPost_ret (v:=.agg #[.int .i64 s,.slice Ax mx cx,.slice A2 nr c2]) (results_cell_row (by rfl) _ _ w.heap.size 26 _ (0,0) _ rfl (setRow_heap _ _ _ _ _ _ hR5) Tryd.underlying26 rfl (Hi.out _ _ _ _ _ _ _)) rfl (HF.out _ _ _ _ hM ho6.rd)
  ·go_wp2_with (refine wpList_store_row rfl 26 _ _ rfl w.heap.size #[.int .i64 s,.slice A1 mx c1,.slice A2 nr c2] rfl rfl 26 #[.int .i64 0,.slice none 0 0,.slice none 0 0] hR4 (Hi.out _ _ _ _ _ _ _) rfl (Hone.out _ _ _ _ _ _ _) ?_)
   have hM:Mv w0.heap.size w.heap.size w2 (w4.setRow w.heap.size #[.int .i64 s,.slice A1 mx c1,.slice A2 nr c2]):=hM4.grown grown_row (.inr (.inl rfl));exact bodyPost_ret (v:=.agg #[.int .i64 s,.slice A1 mx c1,.slice A2 nr c2]) (results_cell_row (by rfl) _ _ w.heap.size 26 _ (0,0) _ rfl (setRow_heap _ _ _ _ _ _ hR4) Tryd.underlying26 rfl (Hi.out _ _ _ _ _ _ _)) rfl (HF.out _ _ _ _ hM (HRw.out _ hM))
end Go.Proofs.YtkeoflnmbcdmfaaDoor
set_option maxRecDepth 8000
namespace Go.Proofs.YtkeoflnmbcdmfaaDoor
open Go.ChangeShapes Go.WideShapes Go.ChangeAt Go.RowKit
theorem EvPost.no {s:Int} {n nr:Nat} {gi:List Int} {rs:List RuleM} {w w':World} {e:Ending} (h:EvPost s n gi nr rs w e w') (hf:(pvB s gi rs&&oneB s n gi rs)=false):Below w.heap.size w w'/\e=.returned (.tuple #[.agg #[.int .i64 0,.slice none 0 0,.slice none 0 0],.bool false]):=by
 obtain ⟨h1,h2|h2⟩:=h
 ·exact ⟨h1,h2.1⟩
 ·rw [hf] at h2;exact absurd h2.1 (by simp)
theorem EvPost.yes {s:Int} {n nr:Nat} {gi:List Int} {rs:List RuleM} {w w':World} {e:Ending} (h:EvPost s n gi nr rs w e w') (hf:(pvB s gi rs&&oneB s n gi rs)=true):Below w.heap.size w w'/\∃ A1 c1 A2 c2,e=.returned (.tuple #[.agg #[.int .i64 s,.slice A1 n c1,.slice A2 nr c2],.bool true])/\Rd w' w'.heap.size A1 n (evL s n rs gi ((n+1)/2))/\OwR w' w.heap.size (.slice A2 nr c2) rs nr:=by
 obtain ⟨h1,h2|h2⟩:=h
 ·rw [hf] at h2;exact absurd h2.2 (by simp)
 ·obtain ⟨_,A1,c1,A2,c2,K,e,a,b,c,d⟩:=h2;exact ⟨h1,A1,c1,A2,c2,e,a.rd,c⟩
end Go.Proofs.YtkeoflnmbcdmfaaDoor
set_option maxRecDepth 8000
namespace Go.Proofs.YtkeoflnmbcdmfaaDoor
open Go.ChangeShapes Go.WideShapes Go.ChangeAt Go.RowKit
set_option maxHeartbeats 1000000 in
theorem evenMinimal_walk (A:Option Addr) (c n:Nat) (bs:List Int) (w:World) (h:Code_ w A n c bs) (hT:Tz w):
 Calls Tryd.prog 14 #[.slice A n c] w fun e w'=>e=.returned (.bool true)/\Below w.heap.size w w':=by
 by_cases hn:n<=1048576
 ·go_enter Tryd.func14,Tryd.ntmps14
  go_wp2_with fail
  refine (draw_DrawMakeEven _ _ _ _ _ h).mono ?_;rintro e w1 ⟨s,A1,n1,c1,gi,A2,nr,c2,rs,rfl,s2,s4,hrd,hn16,hR,hl,hnr,hb1⟩;have hx0:=pbox_new w1 s A1 n1 c1 A2 nr c2 26;have hbA:Below w1.heap.size w1 (w1.alloc (.cells #[.int .i64 s,.slice A1 n1 c1,.slice A2 nr c2] 26)):=(Below.refl _ _).alloc (Nat.le_refl _) _;have hpc0:PGc w1 s A1 n1 c1 w1.heap.size gi A2 nr c2 w1.heap.size rs:=⟨hrd,Nat.le_refl _,by omega,hR.rdc hl,Nat.le_refl _,by omega⟩;have hpcA:=hpc0.below hbA
  have hsA:w1.heap.size<(w1.alloc (.cells #[.int .i64 s,.slice A1 n1 c1,.slice A2 nr c2] 26)).heap.size:=by simp
  obtain ⟨W,hW⟩:∃ W,w1.alloc (.cells #[.int .i64 s,.slice A1 n1 c1,.slice A2 nr c2] 26)=W:=⟨_,rfl⟩;rw [hW] at hx0 hbA hpcA hsA;have hb0W:Below w.heap.size w W:=step hb1 hbA;have HX:=Lib.hid (fun w' (hb:Below W.heap.size W w')=>hx0.below (by omega:w1.heap.size<W.heap.size) hb);have HPc:=Lib.hid (fun w' (hb:Below W.heap.size W w')=>hpcA.below hb);have HTz:=Lib.hid (fun w' (hb:Below W.heap.size W w')=>hT.below hT.lt (step hb0W hb));have HB:=Lib.hid (fun w' (hb:Below W.heap.size W w')=>step hb0W hb);have HI:=Lib.hid (implMakeEven _ _ _ _ _ _ _ _ _ _ _ _ hpcA (HTz.out _ (Below.refl _ _)))
  have HS:=Lib.hid (fun w' (hb:Below W.heap.size W w')=>specMakeEven _ _ _ _ _ _ _ _ _ _ _ _ (hpcA.below hb).rd (by omega));have HW:=Lib.hid hW;obtain ⟨z0,z1,z2⟩:=id hx0;have hgl:=hrd.1;clear hW hpc0 hpcA hbA hx0 hR hrd h hT;cases hok:(pvB s gi rs&&oneB s n1 gi rs)
  ·have Hok:=Lib.hid hok;rw [hok] at HI;clear hok
   go_wp2_with fail
   rw [HW.out];refine HI.out.mono ?_;rintro e w2 h2;obtain ⟨hb2,rfl⟩:=h2.no;have hb2a:Below w2.heap.size w2 (w2.alloc (.cells #[.int .i64 0,.slice none 0 0,.slice none 0 0] 26)):=(Below.refl _ _).alloc (Nat.le_refl _) _;have hs2a:w2.heap.size<(w2.alloc (.cells #[.int .i64 0,.slice none 0 0,.slice none 0 0] 26)).heap.size:=(by simp);have hxx:=pbox_new w2 0 none 0 0 none 0 0 26;have h2a:=step hb2 hb2a;obtain ⟨y0,y1,y2⟩:=HX.out _ h2a;clear z0 z1 z2
   go_wp2_with fail
   refine (HS.out _ h2a).mono ?_;rintro e w3 h3;obtain ⟨hb3,rfl⟩:=h3.no Hok.out;have hb3a:Below w3.heap.size w3 (w3.alloc (.cells #[.int .i64 0,.slice none 0 0,.slice none 0 0] 26)):=(Below.refl _ _).alloc (Nat.le_refl _) _;have h3a:=step h2a (step hb3 hb3a);obtain ⟨x0,x1,x2⟩:=hxx.below hs2a (step hb3 hb3a);clear y0 y1 y2
   go_wp2_with fail
   refine (same_nil _).mono ?_;rintro e w4 ⟨rfl,hb4⟩;have h4:=step h3a hb4
   go_wp2_with (go_at_call 21;(with_reducible refine (alive_any _).mono ?_);rintro e w6 ⟨rfl,hb6⟩)
   go_ret
   exact ⟨rfl,HB.out _ (step h4 hb6)⟩
  ·have Hok:=Lib.hid hok;rw [hok] at HI;rw [Bool.and_eq_true] at hok;obtain ⟨hv,ho⟩:=hok;obtain ⟨t,rfl,hs,hnn,_,_⟩:=pv_grid hv hgl;have hnn2:n1=t*t:=(by simp at hs;rcases hs with rfl|rfl|rfl<;>omega);have hinv:=evL_inv (s:=t) (n:=n1) hv ho ((n1+1)/2);have hXl:(evL (t:Int) n1 rs gi ((n1+1)/2)).length=n1:=(evL_length _ _ _ _ _).trans hgl;obtain ⟨X,hX⟩:∃ X,X=evL (t:Int) n1 rs gi ((n1+1)/2):=⟨_,rfl⟩;rw [<- hX] at HI hinv hXl
   have HSy:=Lib.hid (fun w' e w'' (h:EvPost (t:Int) n1 gi nr rs w' e w'')=>by
    have:=h.yes Hok.out;rw [<- hX] at this
    exact this)
   have hz:=minL_inv (s:=t) (n:=n1) hinv.v hinv.o n1;obtain ⟨Z,hZ⟩:∃ Z,Z=minL (t:Int) n1 rs X n1:=⟨_,rfl⟩;rw [<- hZ] at hz;have HZ:=Lib.hid hZ.symm;have hZg:Le0 Z gi:=hz.l.trans hinv.l;have HSf:=Lib.hid (sf_same (s:=t) hgl hv hz.v hnn2 hZg ho hz.o)
   have HSb:=Lib.hid (show sfB (t:Int) n1 gi rs=true by
    obtain ⟨y,hy⟩:=List.length_eq_one_iff.1 ((one_iff hgl hv hnn2).1 ho)
    exact (sf_cons hgl hv hnn2 hy).2)
   have hZl:Z.length=n1:=hZg.1.trans hgl
   have HGf:Hid (gf Z (t:Int)<=gf X (t:Int)):=Lib.hid (by
    unfold gf;rw [if_pos (pv_gv hz.v).1,if_pos (pv_gv hinv.v).1,hXl,hZl];have:=cnz_mono hz.l n1
    omega)
   have Hok2:Hid ((pvB (t:Int) X rs&&oneB (t:Int) n1 X rs)=true):=Lib.hid (by rw [hinv.v,hinv.o];rfl);have Hrl:=Lib.hid hl;have hnr2:nr<=1099511627776:=(by omega);have hgm:n1<=1099511627776:=(by omega);clear hX hinv hv ho hs hnn hnn2 hgl hXl hz hZ hZg hZl
   go_wp2_with fail
   rw [HW.out];refine HI.out.mono ?_;rintro e w2 h2;obtain ⟨hb2,A3,c3,g3,rfl,hown⟩:=h2.yes;have hb2a:Below w2.heap.size w2 (w2.alloc (.cells #[.int .i64 (t:Int),.slice A3 n1 c3,.slice (some ⟨g3,0,none⟩) nr nr] 26)):=(Below.refl _ _).alloc (Nat.le_refl _) _;have hs2a:w2.heap.size<(w2.alloc (.cells #[.int .i64 (t:Int),.slice A3 n1 c3,.slice (some ⟨g3,0,none⟩) nr nr] 26)).heap.size:=(by simp);have hxx:=pbox_new w2 (t:Int) A3 n1 c3 (some ⟨g3,0,none⟩) nr nr 26;have h2a:=step hb2 hb2a;have hpx:=(hown.pgc (s:=(t:Int)) hgm Hrl.out hnr2).below hb2a;have HPx:=Lib.hid (fun w' (hb:Below (w2.alloc (.cells #[.int .i64 (t:Int),.slice A3 n1 c3,.slice (some ⟨g3,0,none⟩) nr nr] 26)).heap.size (w2.alloc (.cells #[.int .i64 (t:Int),.slice A3 n1 c3,.slice (some ⟨g3,0,none⟩) nr nr] 26)) w')=>(⟨hpx.below hb,hxx.below hs2a hb⟩:PGc w' (t:Int) A3 n1 c3 w2.heap.size X (some ⟨g3,0,none⟩) nr nr w2.heap.size rs/\PBox w' w2.heap.size (t:Int) A3 n1 c3 (some ⟨g3,0,none⟩) nr nr))
   obtain ⟨y0,y1,y2⟩:=HX.out _ h2a;clear z0 z1 z2 hown hpx hxx
   go_wp2_with fail
   refine (HS.out _ h2a).mono ?_;rintro e w3 h3;obtain ⟨hb3,A5,c5,A6,c6,rfl,hr5,hor6⟩:=HSy.out _ _ _ h3;have hb3a:Below w3.heap.size w3 (w3.alloc (.cells #[.int .i64 (t:Int),.slice A5 n1 c5,.slice A6 nr c6] 26)):=(Below.refl _ _).alloc (Nat.le_refl _) _;have h23a:=step hb3 hb3a;have h3a:=step h2a h23a;obtain ⟨hpx3,x0,x1,x2⟩:=HPx.out _ h23a;have HSP:=Lib.hid (samePuzzle_any (t:Int) A3 A5 c3 c5 n1 w2.heap.size w3.heap.size X (some ⟨g3,0,none⟩) A6 nr c6 nr w2.heap.size w3.heap.size rs (w3.alloc (.cells #[.int .i64 (t:Int),.slice A5 n1 c5,.slice A6 nr c6] 26)) hpx3.g hpx3.gB hgm (hr5.below hb3a) hb3a.size hpx3.r.rd ((hor6.rd Hrl.out).below hb3a) hpx3.rB hb3a.size hnr2)
   clear y0 y1 y2 hpx3 hr5 hor6
   go_wp2_with fail
   refine HSP.out.mono ?_;rintro e w4 ⟨rfl,hb4⟩;have h24:=step h23a hb4;obtain ⟨hpx4,u0,u1,u2⟩:=HPx.out _ h24;have HI4:=implMakeMinimal _ _ _ _ _ _ _ _ _ _ _ _ hpx4 (HTz.out _ (step h2a h24));rw [Hok2.out,HZ.out] at HI4;have HI4:=Lib.hid HI4;clear x0 x1 x2 hpx4
   go_wp2_with fail
   refine HI4.out.mono ?_;rintro e w5 h5;obtain ⟨hb5,A7,c7,g7,rfl,hown7⟩:=h5.yes;have hb5a:Below w5.heap.size w5 (w5.alloc (.cells #[.int .i64 (t:Int),.slice A7 n1 c7,.slice (some ⟨g7,0,none⟩) nr nr] 26)):=(Below.refl _ _).alloc (Nat.le_refl _) _;have h25a:=step h24 (step hb5 hb5a);have hs5a:w5.heap.size<(w5.alloc (.cells #[.int .i64 (t:Int),.slice A7 n1 c7,.slice (some ⟨g7,0,none⟩) nr nr] 26)).heap.size:=(by simp);have hzz:=pbox_new w5 (t:Int) A7 n1 c7 (some ⟨g7,0,none⟩) nr nr 26;have hp7:=(hown7.pgc (s:=(t:Int)) hgm Hrl.out hnr2).below hb5a
   obtain ⟨V,hV⟩:∃ V,w5.alloc (.cells #[.int .i64 (t:Int),.slice A7 n1 c7,.slice (some ⟨g7,0,none⟩) nr nr] 26)=V:=⟨_,rfl⟩;have hxp:=HX.out _ (step h2a h25a);obtain ⟨v0,v1,v2⟩:=id hxp;rw [hV] at h25a hzz hp7 hs5a hxp;have HPz:=Lib.hid (fun w' (hb:Below V.heap.size V w')=>(⟨hp7.below hb,hzz.below hs5a hb⟩:PGc w' (t:Int) A7 n1 c7 w5.heap.size Z (some ⟨g7,0,none⟩) nr nr w5.heap.size rs/\PBox w' w5.heap.size (t:Int) A7 n1 c7 (some ⟨g7,0,none⟩) nr nr));have HPx5:=Lib.hid (fun w' (hb:Below V.heap.size V w')=>HPx.out _ (step h25a hb));have HTz5:=Lib.hid (fun w' (hb:Below V.heap.size V w')=>HTz.out _ (step h2a (step h25a hb)))
   have hsb:=HSb.out;have HA:=implSolveFirst _ _ _ _ _ _ _ _ _ _ _ V (HPc.out _ (step h2a h25a)) (HTz5.out _ (Below.refl _ _));rw [hsb] at HA;obtain ⟨FL,hFL⟩:∃ FL,FL=sfL (t:Int) n1 gi rs:=⟨_,rfl⟩;rw [<- hFL] at HA;have HA:=Lib.hid HA
   have HBz:=Lib.hid (fun w' (hb:Below V.heap.size V w')=>by
    have:=implSolveFirst _ _ _ _ _ _ _ _ _ _ _ w' (HPz.out _ hb).1 (HTz5.out _ hb);rw [HSf.out.1,HSf.out.2,hsb,<-hFL] at this
    exact this)
   have hsame:=same_refl FL;have HV:=Lib.hid hV;have H25:=Lib.hid h25a;clear u0 u1 u2 hp7 hown7 hFL hsb hV hzz hxp h25a hb5a hb5
   go_wp2_with (first
    |(go_at_call 17;rw [HV.out];(with_reducible refine HA.out.mono ?_);rintro e w7 ⟨Ax,mx,cx,rfl,hmx,hox,hb7⟩;have hm7:mx=n1:=hmx (by trivial);rw [hm7] at hox ⊢;obtain ⟨_,r0,r1,r2⟩:=HPz.out _ hb7)
    |(go_at_call 17;(with_reducible refine (HBz.out _ hb7).mono ?_);rintro e w8 ⟨Ay,my,cy,rfl,hmy,hoy,hb8⟩;have hm8:my=n1:=hmy (by trivial);rw [hm8] at hoy ⊢;have hb78:=step hb7 hb8))
   have hox8:=hox.rd.below hb8;have hs8:=hb8.size;have HSI:=Lib.hid (fun w' (hb:Below w8.heap.size w8 w')=>sameInts_any _ _ cx cy _ _ _ _ FL FL w' (hox8.below (hb.mono hs8)) (hoy.rd.below hb) (by omega));have HGz:=Lib.hid (fun w' (hb:Below w8.heap.size w8 w')=>implGridFilled _ c7 _ _ _ (t:Int) w' ((HPz.out _ (step hb78 hb)).1.g) ((HPz.out _ (step hb78 hb)).1.gB) hgm);have HGx:=Lib.hid (fun w' (hb:Below w8.heap.size w8 w')=>implGridFilled _ c3 _ _ _ (t:Int) w' ((HPx5.out _ (step hb78 hb)).1.g) ((HPx5.out _ (step hb78 hb)).1.gB) hgm);have HK:Hid (∀ w',Below w8.heap.size w8 w'->(w'.cell? ⟨w5.heap.size,0,none⟩=some (.int .i64 (t:Int))/\w'.cell? ⟨w5.heap.size,1,none⟩=some (.slice A7 n1 c7)/\w'.cell? ⟨w5.heap.size,2,none⟩=some (.slice (some ⟨g7,0,none⟩) nr nr))/\(w'.cell? ⟨w2.heap.size,0,none⟩=some (.int .i64 (t:Int))/\w'.cell? ⟨w2.heap.size,1,none⟩=some (.slice A3 n1 c3)/\w'.cell? ⟨w2.heap.size,2,none⟩=some (.slice (some ⟨g3,0,none⟩) nr nr))):=Lib.hid (fun w' hb=>⟨(HPz.out _ (step hb78 hb)).2,(HPx5.out _ (step hb78 hb)).2⟩)
   obtain ⟨fz,hfz⟩:∃ f,f=gf Z (t:Int):=⟨_,rfl⟩;obtain ⟨fx,hfx⟩:∃ f,f=gf X (t:Int):=⟨_,rfl⟩;have hle:=HGf.out;rw [<- hfz,<-hfx] at hle;rw [<- hfz] at HGz;rw [<- hfx] at HGx;obtain ⟨⟨l0,l1,l2⟩,⟨l3,l4,l5⟩⟩:=HK.out _ (Below.refl _ _);have Hb78:=Lib.hid hb78;clear hfz hfx hox hoy hox8 hb7 hb8 hb78 r0 r1 r2 v0 v1 v2
   go_region_held3 (fun w'=>(w'.cell? ⟨w5.heap.size,0,none⟩=some (.int .i64 (t:Int))/\w'.cell? ⟨w5.heap.size,1,none⟩=some (.slice A7 n1 c7)/\w'.cell? ⟨w5.heap.size,2,none⟩=some (.slice (some ⟨g7,0,none⟩) nr nr))/\(w'.cell? ⟨w2.heap.size,0,none⟩=some (.int .i64 (t:Int))/\w'.cell? ⟨w2.heap.size,1,none⟩=some (.slice A3 n1 c3)/\w'.cell? ⟨w2.heap.size,2,none⟩=some (.slice (some ⟨g3,0,none⟩) nr nr)))
    (first|go_keep|exact HK.out _ hbC|exact HK.out _ hbB|exact HK.out _ hbA)
    ((first
      |(go_simp;go_at_call 40;(with_reducible refine (HGx.out _ hbB).mono ?_);rintro e wC ⟨rfl,hbC'⟩;have hbC:Below w8.heap.size w8 wC:=step hbB hbC')
      |(go_simp;go_at_call 40;(with_reducible refine (HGz.out _ hbA).mono ?_);rintro e wB ⟨rfl,hbB'⟩;have hbB:Below w8.heap.size w8 wB:=step hbA hbB')
      |(go_simp;go_at_call 19;refine (HSI.out _ (Below.refl _ _).drew).mono ?_;rintro e wA ⟨rfl,hbA'⟩;rw [hsame];have hbA:Below w8.heap.size w8 wA:=((Below.refl _ _).drew).trans hbA')))
   all_goals
    have hfin:=HB.out _ (step h2a (step H25.out (step Hb78.out hbC)))
    go_wp2
    go_ret
    exact ⟨by trivial,hfin⟩
 ·go_enter Tryd.func14,Tryd.ntmps14
  go_wp2
  go_ret
  exact ⟨rfl,Below.refl _ _⟩
end Go.Proofs.YtkeoflnmbcdmfaaDoor
