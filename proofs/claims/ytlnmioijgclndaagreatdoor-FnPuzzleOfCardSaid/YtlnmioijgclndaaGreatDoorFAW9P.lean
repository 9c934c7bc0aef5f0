import Derived.Test.YtlnmioijgclndaaGreatDoorFASl
set_option maxRecDepth 8000
namespace Go.Proofs.YtlnmioijgclndaaGreatDoor
open Go.ChangeShapes Go.WideShapes Go.ChangeAt Go.RowKit Go.Shelf
attribute [local go_sem] Oper.semAt_some
theorem RdRc.more {w:World} {B B':Nat} {A:Option Addr} {n:Nat} {rs:List RuleM} (h:RdRc w B A n rs) (hB:B<=B'):RdRc w B' A n rs:=by
 refine ⟨h.1,fun hn=>?_⟩;obtain ⟨b,off,e,hb,hc⟩:=h.2 hn
 exact ⟨b,off,e,Nat.lt_of_lt_of_le hb hB,fun i hi=>by
  obtain ⟨A',c',e0,e1,e2,e3,e4⟩:=hc i hi
  exact ⟨A',c',e0,e1,e2,e3.more hB,e4⟩⟩
theorem allS_cv {s:Nat} {gi:List Int} {rs:List RuleM} {most n:Nat} (hl:gi.length=n) (hv:pvB s gi rs=true) (h0:0<most) (hn:n=s*s):allS s most n gi rs=(cv s gi rs (s*s) []).take most:=by
 rw [allS_is hl hv h0,<-cv_is hv,hl,hn]
theorem sf_cons {s:Nat} {gi:List Int} {rs:List RuleM} {n:Nat} {y:List Int} {zs:List (List Int)} (hl:gi.length=n) (hv:pvB s gi rs=true) (hn:n=s*s) (h:cv s gi rs (s*s) []=y::zs):sfL s n gi rs=y/\sfB s n gi rs=true:=by
 unfold sfL sfB;rw [allS_cv hl hv (by omega) hn,h];exact ⟨rfl,rfl⟩
theorem sf_nil {s:Nat} {gi:List Int} {rs:List RuleM} {n:Nat} (hl:gi.length=n) (hv:pvB s gi rs=true) (hn:n=s*s) (h:cv s gi rs (s*s) []=[]):sfL s n gi rs=[]/\sfB s n gi rs=false:=by
 unfold sfL sfB;rw [allS_cv hl hv (by omega) hn,h];exact ⟨rfl,rfl⟩
theorem allS_none {s:Int} {gi:List Int} {rs:List RuleM} {most n:Nat} (hv:pvB s gi rs=false):allS s most n gi rs=[]:=by
 unfold allS fpB;rw [hv];rfl
theorem cv_len {s:Nat} {gi:List Int} {rs:List RuleM} {n:Nat} {y:List Int} (hl:gi.length=n) (hv:pvB s gi rs=true) (hn:n=s*s) (hs:s∈[2,3,4]) (h:y∈cv s gi rs (s*s) []):y.length=n:=by
 have e:cv s gi rs (s*s) []=solL s gi rs:=by rw [<- hn,<-hl];exact cv_is hv
 rw [e,solL_is hv] at h;have h1:=(List.mem_filter.1 h).2;unfold psB fpB at h1;simp only [Bool.and_eq_true] at h1;have:=gv_len h1.1.1.2
 simp at hs
 rcases hs with rfl|rfl|rfl<;>omega
theorem below_put_at {N l:Nat} {X:World} (o':Obj) (hN:N<=l) (hl:l<X.heap.size):Below N X (X.putObj l o'):=
 below_put o' hN (Array.getElem?_eq_getElem hl)
theorem Ow.same_own {w w':World} {lo n c:Nat} {A:Option Addr} {xs:List Int} (h:Ow w lo A n c xs) (hn:0<n) (hs:∀ g,(Value.slice A n c).ownBlock=some g->w'.heap[g]? =w.heap[g]?):Ow w' lo A n c xs:=by
 obtain ⟨g,rfl,_,_⟩:=h.form hn;exact h.same (hs g rfl)
theorem cell_none_of_deferred {W:World} {D i:Nat} {o:Option (List Deferred)} (h:W.heap[D]? =some (.deferred o)):W.cell? ⟨D,i,none⟩=none:=by
 unfold World.cell?
 simp [h]
theorem sf_results (tm:Array Value) (X:World) (g h:Nat) (A:Option Addr) (m c:Nat) (b:Bool) (h2:tm[2]?.getD undef=.pointer (some ⟨g,0,none⟩)) (h3:tm[3]?.getD undef=.pointer (some ⟨h,0,none⟩)) (c1:X.cell? ⟨g,0,none⟩=some (.slice A m c)) (c2:X.cell? ⟨h,0,none⟩=some (.bool b)):(results Tryz.f16 tm).run Tryz.prog X=.ok (.tuple #[.slice A m c,.bool b]) X:=by
 simp [results,Tryz.f16,go_sem,h2,h3,c1,c2]
set_option maxHeartbeats 1000000 in
theorem implSolveFirst (s:Int) (Ag:Option Addr) (n cg Bg:Nat) (gi:List Int) (Ar:Option Addr) (nr cr Br:Nat) (rs:List RuleM) (w:World) (hp:PGc w s Ag n cg Bg gi Ar nr cr Br rs) (hT:Tz w):
 Calls Tryz.prog 16 #[.agg #[.int .i64 s,.slice Ag n cg,.slice Ar nr cr]] w fun e w'=>∃ A m c,e=.returned (.tuple #[.slice A m c,.bool (sfB s n gi rs)])/\(sfB s n gi rs=true->m=n)/\Ow w' w.heap.size A m c (sfL s n gi rs)/\Below w.heap.size w w':=by
 have hx0:=pbox_new w s Ag n cg Ar nr cr 26;obtain ⟨W1,hW1⟩:∃ W1,w.alloc (.cells #[.int .i64 s,.slice Ag n cg,.slice Ar nr cr] 26)=W1:=⟨_,rfl⟩;rw [hW1] at hx0
 have hb1:Below w.heap.size w W1:=by rw [<- hW1];exact (Below.refl _ _).alloc (Nat.le_refl _) _
 have hs1:W1.heap.size=w.heap.size+1:=by rw [<- hW1];simp
 obtain ⟨W2,hW2⟩:∃ W2,W1.alloc (.cells #[.slice none 0 0] 23)=W2:=⟨_,rfl⟩
 have hb2:Below W1.heap.size W1 W2:=by rw [<- hW2];exact (Below.refl _ _).alloc (Nat.le_refl _) _
 have hs2:W2.heap.size=w.heap.size+1+1:=by rw [<- hW2];simp [hs1]
 have hr2:W2.heap[w.heap.size+1]? =some (.cells #[.slice none 0 0] 23):=by rw [<- hW2,<-hs1];exact heap_alloc_new _ _
 obtain ⟨W3,hW3⟩:∃ W3,W2.alloc (.cells #[.bool false] 4)=W3:=⟨_,rfl⟩
 have hb3:Below W2.heap.size W2 W3:=by rw [<- hW3];exact (Below.refl _ _).alloc (Nat.le_refl _) _
 have hs3:W3.heap.size=w.heap.size+1+1+1:=by rw [<- hW3];simp [hs2]
 have hr3:W3.heap[w.heap.size+1]? =some (.cells #[.slice none 0 0] 23):=(hb3.block _ (by omega)).trans hr2
 have hq3:W3.heap[w.heap.size+1+1]? =some (.cells #[.bool false] 4):=by rw [<- hW3,<-hs2];exact heap_alloc_new _ _
 have hx3:=(hx0.below (by omega) hb2).below (by omega) hb3;have hbW:Below w.heap.size w W3:=(hb1.trans (hb2.mono (by omega))).trans (hb3.mono (by omega));have HV:=Lib.hid (valid_any s Ag n cg Bg gi Ar nr cr Br rs W3 (hp.below hbW));have HB3:=Lib.hid hbW;have HX3:=Lib.hid hx3;have HR3:=Lib.hid (And.intro hr3 hq3);obtain ⟨z0,z1,z2⟩:=id hx3;clear hb1 hb2 hb3 hr2 hr3 hq3 hx0 hx3 hbW;refine (callsIn_wide (n:=9)).1 ?_;refine callsIn_of_wp_marks Tryz.func16 rfl trivial ?_ rfl;simp only [Tryz.ntmps16,List.size_toArray,List.length_cons,List.length_nil,Nat.reduceAdd,Nat.reduceSub,Array.replicate_succ,Array.replicate_zero,List.push_toArray,List.append_toArray,List.nil_append,List.cons_append]
 cases hv:pvB s gi rs
 ·have H1:sfB s n gi rs=false/\sfL s n gi rs=[]:=by unfold sfB sfL;rw [allS_none hv];exact ⟨rfl,rfl⟩
  rw [H1.1,H1.2];clear H1
  gi_wp2_with ((try refine ⟨trivial,?_⟩);gi_at_call 52;refine (callsIn_wide.2 HV.out).mono ?_;rintro e w4 ⟨rfl,hb4⟩;rw [hv];obtain ⟨hr3,hq3⟩:=HR3.out;have hr4:=(hb4.block _ (by omega)).trans hr3;have hq4:=(hb4.block _ (by omega)).trans hq3;have hcr:=cell_of_row _ _ 0 _ _ (0,0) hr4;have hfr:=frozen_of_row _ _ 0 _ _ hr4;have hcq:=cell_of_row _ _ 0 _ _ (0,0) hq4;have hfq:=frozen_of_row _ _ 0 _ _ hq4)
  have e1:=heap_setCell_same w4 (w.heap.size+1) 0 _ _ (.slice none 0 0) hr4;have e2:=(heap_setCell_other w4 ⟨w.heap.size+1,0,none⟩ (w.heap.size+1+1) (.slice none 0 0) (fun e=>by dsimp only at e;omega)).trans hq4;have e3:=(heap_setCell_other _ ⟨w.heap.size+1+1,0,none⟩ (w.heap.size+1) (.bool false) (fun e=>by dsimp only at e;omega)).trans e1;have e4:=heap_setCell_same _ (w.heap.size+1+1) 0 _ _ (.bool false) e2;exact ⟨_,sf_results _ _ (w.heap.size+1) (w.heap.size+1+1) none 0 0 false rfl rfl (cell_of_row _ _ 0 _ _ (0,0) e3) (cell_of_row _ _ 0 _ _ (0,0) e4),none,0,0,rfl,(fun h=>by cases h),Ow.nil_ _ _,((step HB3.out hb4).setCell (p:=⟨w.heap.size+1,0,none⟩) (by show w.heap.size<=w.heap.size+1;omega) _).setCell (p:=⟨w.heap.size+1+1,0,none⟩) (by show w.heap.size<=w.heap.size+1+1;omega) _⟩
 ·obtain ⟨t,rfl,hs,hnn,hn16,hok⟩:=pv_grid hv hp.g.1
  have hn:n=t*t:=by simp at hs;rcases hs with rfl|rfl|rfl<;>omega
  have hn0:0<n:=by simp at hs;rcases hs with rfl|rfl|rfl<;>omega
  have hgl:=hp.g.1
  have hmr:nr<=20:=by have:=(pv_gv hv).2.1;have:=hp.r.1;omega
  have HG:=Lib.hid (hp.g.more hp.gB);have HR:=Lib.hid (hp.r.more hp.rB);have HT:=Lib.hid (fun X (hb:Below w.heap.size w X)=>hT.below hT.lt hb);have HN:=Lib.hid hn;have HV2:=Lib.hid hv;have Hgl:=Lib.hid hgl;clear hok hnn hn hgl hp hT
  gi_wp2_with (first
   |((try refine ⟨trivial,?_⟩);gi_at_call 52;refine (callsIn_wide.2 HV.out).mono ?_;rintro e w4 ⟨rfl,hb4⟩;rw [hv];have hx4:=HX3.out.below (show w.heap.size<W3.heap.size by omega) hb4;obtain ⟨y0,y1,y2⟩:=id hx4)
   |((try refine ⟨trivial,?_⟩);gi_at_call 60;refine (callsIn_wide.2 (solutions_any t n Ag cg Ar nr cr w4)).mono ?_;rintro e w5 ⟨PB,rfl,hPl,hpb,hb5⟩))
  have h45:=hb5.size;have h34:=hb4.size;have hb35:Below W3.heap.size W3 w5:=hb4.trans (hb5.mono h34);have hb05:Below w.heap.size w w5:=HB3.out.trans (hb35.mono (by omega));obtain ⟨hr3,hq3⟩:=HR3.out;have hr5:=(hb35.block _ (by omega)).trans hr3;have hq5:=(hb35.block _ (by omega)).trans hq3;have hPB:=cell_lt hpb.1
  have d1:w.heap.size+1+1<w5.heap.size:=by omega
  clear z0 z1 z2 y0 y1 y2 hx4 hb4 hb5 hb35 hr3 hq3 hW1 hW2 hW3 hs1 hs2 hs3 h45 h34 hPl hv HV
  refine range_twoP 9 (q:=4) (by rfl) (enters_of Tryz.func110 (by kernel_rfl) rfl) (sols_seq w w.heap.size PB t n Ag cg gi Ar nr cr rs (Nat.le_refl _) hs HN.out HG.out HR.out hmr HV2.out HT.out)
   (fun pre X=>pre=[]/\SBase w w.heap.size PB t Ag n cg Ar nr cr X/\X.heap[w.heap.size+1]? =some (.cells #[.slice none 0 0] 23)/\X.heap[w.heap.size+1+1]? =some (.cells #[.bool false] 4))
   (fun cc X=>cc=.ret/\∃ y zs A c,cv t gi rs (t*t) []=y::zs/\Below w.heap.size w X/\X.heap[w.heap.size+1]? =some (.cells #[.slice A n c] 23)/\Ow X w.heap.size A n c y/\X.heap[w.heap.size+1+1]? =some (.cells #[.bool true] 4)/\∀ g,(Value.slice A n c).ownBlock=some g->w5.heap.size+1<g)
   (fun pre X h=>h.2.1)
   (fun pre X Y h hb=>⟨h.1,⟨h.2.1.1.trans (hb.mono (by omega)),h.2.1.2.below hPB hb⟩,(hb.block _ (by omega)).trans h.2.2.1,(hb.block _ d1).trans h.2.2.2⟩)
   (fun cc X o h hX=>by
     obtain ⟨h1,y,zs,A,c,h2,h3,h4,h5,h6,h7⟩:=h;refine ⟨h1,y,zs,A,c,h2,h3.trans (below_put_at _ (by omega) hX),(World.putObj_heap_other (by omega)).trans h4,?_,(World.putObj_heap_other (by omega)).trans h6,h7⟩
     exact h5.same_own hn0 (fun g e=>World.putObj_heap_other (by have:=h7 g e;omega)))
   ⟨rfl,⟨hb05,hpb⟩,hr5,hq5⟩ ?assign ?body ?done ?stop
  case assign=>
   intro l v W K hK;simp only [List.setIfInBounds_toArray,List.set_cons_zero,List.set_cons_succ] at hK ⊢
   gi_wp2
   exact hK
  case body=>
   rintro l pre x X b n' c' ⟨rfl,⟨hBX,hpX⟩,hrX,hqX⟩ ⟨zs,hzs⟩ hbb hXs hrd;have hxl:=cv_len Hgl.out HV2.out HN.out hs (show x∈cv t gi rs (t*t) [] by rw [hzs];simp)
   obtain rfl:n'=n:=by rw [<- hrd.1];exact hxl
   have HCl:=Lib.hid (clone_any (some ⟨b,0,none⟩) n' c' X.heap.size x X hrd (Nat.le_refl _) hn0 (by omega));have hXl:w.heap.size+1+1<X.heap.size:=(Array.getElem?_eq_some_iff.1 hqX).1;have Hzs:=Lib.hid hzs;have HBX:=Lib.hid hBX;have Hrd:=Lib.hid hrd;clear hzs hxl hpX hBX hrd;simp only [List.setIfInBounds_toArray,List.set_cons_zero,List.set_cons_succ]
   gi_wp2_with ((try refine ⟨trivial,?_⟩);gi_at_call 61;refine (callsIn_wide.2 HCl.out).mono ?_;rintro e w6 ⟨A6,c6,rfl,ho6,hb6⟩;have hr6:=(hb6.block _ (by omega)).trans hrX;have hq6:=(hb6.block _ hXl).trans hqX;have hcr:=cell_of_row _ _ 0 _ _ (0,0) hr6;have hfr:=frozen_of_row _ _ 0 _ _ hr6;have hcq:=cell_of_row _ _ 0 _ _ (0,0) hq6;have hfq:=frozen_of_row _ _ 0 _ _ hq6)
   obtain ⟨g6,rfl,hg6,hgw6⟩:=ho6.form hn0;have e1:=heap_setCell_same w6 (w.heap.size+1) 0 _ _ (.slice (some ⟨g6,0,none⟩) n' c6) hr6;have e2:=(heap_setCell_other w6 ⟨w.heap.size+1,0,none⟩ (w.heap.size+1+1) (.slice (some ⟨g6,0,none⟩) n' c6) (fun e=>by dsimp only at e;omega)).trans hq6;have e3:=(heap_setCell_other _ ⟨w.heap.size+1+1,0,none⟩ (w.heap.size+1) (.bool true) (fun e=>by dsimp only at e;omega)).trans e1;have e4:=heap_setCell_same _ (w.heap.size+1+1) 0 _ _ (.bool true) e2;have hX6:=hb6.size
   have hoE:Ow ((w6.setCell ⟨w.heap.size+1,0,none⟩ (.slice (some ⟨g6,0,none⟩) n' c6)).setCell ⟨w.heap.size+1+1,0,none⟩ (.bool true)) w.heap.size (some ⟨g6,0,none⟩) n' c6 x:=
    (ho6.mono (by omega)).same ((heap_setCell_other _ ⟨w.heap.size+1+1,0,none⟩ g6 (.bool true) (fun e=>by dsimp only at e;omega)).trans (heap_setCell_other w6 ⟨w.heap.size+1,0,none⟩ g6 (.slice (some ⟨g6,0,none⟩) n' c6) (fun e=>by dsimp only at e;omega)))
   refine ⟨(Mid.of_below hb6).trans ((Mid.setCell _ _ _ _ _ (by omega)).trans (Mid.setCell _ _ _ _ _ (by omega))),rfl,x,zs,_,c6,Hzs.out,((HBX.out.trans (hb6.mono (by omega))).setCell (p:=⟨w.heap.size+1,0,none⟩) (by show w.heap.size<=w.heap.size+1;omega) _).setCell (p:=⟨w.heap.size+1+1,0,none⟩) (by show w.heap.size<=w.heap.size+1+1;omega) _,e3,hoE,e4,fun g e=>?_⟩;have e:g6=g:=Option.some.inj e;omega
  case done=>
   rintro D W hD ⟨he,⟨hBX,_⟩,hrX,hqX⟩ hK;obtain ⟨q1,q2⟩:=sf_nil Hgl.out HV2.out HN.out he;have hcr:=cell_of_row _ _ 0 _ _ (0,0) hrX;have hfr:=frozen_of_row _ _ 0 _ _ hrX;have hcq:=cell_of_row _ _ 0 _ _ (0,0) hqX;have hfq:=frozen_of_row _ _ 0 _ _ hqX
   gi_wp2
   have e1:=heap_setCell_same W (w.heap.size+1) 0 _ _ (.slice none 0 0) hrX;have e2:=(heap_setCell_other W ⟨w.heap.size+1,0,none⟩ (w.heap.size+1+1) (.slice none 0 0) (fun e=>by dsimp only at e;omega)).trans hqX;have e3:=(heap_setCell_other _ ⟨w.heap.size+1+1,0,none⟩ (w.heap.size+1) (.bool false) (fun e=>by dsimp only at e;omega)).trans e1;have e4:=heap_setCell_same _ (w.heap.size+1+1) 0 _ _ (.bool false) e2;have e5:=(heap_setCell_other _ ⟨w.heap.size+1+1,0,none⟩ D (.bool false) (fun e=>by dsimp only at e;omega)).trans ((heap_setCell_other W ⟨w.heap.size+1,0,none⟩ D (.slice none 0 0) (fun e=>by dsimp only at e;omega)).trans hK)
   have hbE:=((hBX.setCell (p:=⟨w.heap.size+1,0,none⟩) (by show w.heap.size<=w.heap.size+1;omega) (.slice none 0 0)).setCell (p:=⟨w.heap.size+1+1,0,none⟩) (by show w.heap.size<=w.heap.size+1+1;omega) (.bool false)).trans (below_put (.deferred none) (show w.heap.size<=D by omega) e5);refine ⟨by simp,.inl ⟨_,_,rfl,run_takeDeferred e5,?_⟩⟩;refine ⟨_,sf_results _ _ (w.heap.size+1) (w.heap.size+1+1) none 0 0 false rfl rfl (cell_of_row _ _ 0 _ _ (0,0) ((World.putObj_heap_other (by omega)).trans e3)) (cell_of_row _ _ 0 _ _ (0,0) ((World.putObj_heap_other (by omega)).trans e4)),?_⟩;exact ⟨none,0,0,rfl,Ow.nil_ _ _,hbE⟩
  case stop=>
   rintro D cc W hD ⟨rfl,y,zs,A,c,hc,hBX,hrX,hoX,hqX,hlo⟩ hK;obtain ⟨q1,q2⟩:=sf_cons Hgl.out HV2.out HN.out hc
   gi_wp2
   refine ⟨by simp,.inl ⟨_,_,rfl,run_takeDeferred hK,?_⟩⟩
   have hgD:∀ g,(Value.slice A n c).ownBlock=some g->g≠D:=fun g e e2=>by
    subst e2;obtain ⟨g',e3,_,_⟩:=hoX.form hn0;subst e3;obtain ⟨h1,h2⟩:=hoX.cell (show 0<n from hn0)
    injection e with e
    subst e;rw [cell_none_of_deferred hK] at h1;cases h1
   refine ⟨_,sf_results _ _ (w.heap.size+1) (w.heap.size+1+1) A n c true rfl rfl (cell_of_row _ _ 0 _ _ (0,0) ((World.putObj_heap_other (by omega)).trans hrX)) (cell_of_row _ _ 0 _ _ (0,0) ((World.putObj_heap_other (by omega)).trans hqX)),?_⟩;exact ⟨A,n,c,rfl,rfl,hoX.same_own hn0 (fun g e=>World.putObj_heap_other (fun e2=>hgD g e e2)),hBX.trans (below_put _ (by omega) hK)⟩
attribute [local go_sem] Oper.semAt_some
def csI (s:Int) (n:Nat) (gi:List Int) (rs:List RuleM) (most:Int):Int:=if (pvB s gi rs&&inr most 1 600)=true then ((allS s most.toNat n gi rs).length:Nat) else -1
theorem cs_take {L:List (List Int)} {M:Nat} (h:L.length<M):(L.take M).length=L.length:=by rw [List.length_take];omega
set_option maxHeartbeats 2000000 in
theorem countP_any (s:Int) (Ag:Option Addr) (n cg Bg:Nat) (gi:List Int) (Ar:Option Addr) (nr cr Br:Nat) (rs:List RuleM) (M:Nat) (w:World) (hp:PGc w s Ag n cg Bg gi Ar nr cr Br rs) (hv:pvB s gi rs=true) (hM1:0<M) (hM6:M<=600) (hT:Tz w):
 Calls Tryz.prog 71 #[.agg #[.int .i64 s,.slice Ag n cg,.slice Ar nr cr],.int .i64 (M:Nat)] w fun e w'=>e=.returned (.int .i64 ((allS s M n gi rs).length:Nat))/\Below w.heap.size w w':=by
 have hx0:=pbox_new w s Ag n cg Ar nr cr 26;obtain ⟨W1,hW1⟩:∃ W1,w.alloc (.cells #[.int .i64 s,.slice Ag n cg,.slice Ar nr cr] 26)=W1:=⟨_,rfl⟩;rw [hW1] at hx0
 have hb1:Below w.heap.size w W1:=by rw [<- hW1];exact (Below.refl _ _).alloc (Nat.le_refl _) _
 have hs1:W1.heap.size=w.heap.size+1:=by rw [<- hW1];simp
 obtain ⟨W2,hW2⟩:∃ W2,W1.alloc (.cells #[.int .i64 (M:Nat)] 3)=W2:=⟨_,rfl⟩
 have hb2:Below W1.heap.size W1 W2:=by rw [<- hW2];exact (Below.refl _ _).alloc (Nat.le_refl _) _
 have hs2:W2.heap.size=w.heap.size+1+1:=by rw [<- hW2];simp [hs1]
 have hr2:W2.heap[w.heap.size+1]? =some (.cells #[.int .i64 (M:Nat)] 3):=by rw [<- hW2,<-hs1];exact heap_alloc_new _ _
 have hx2:=hx0.below (by omega) hb2;have hbW:Below w.heap.size w W2:=hb1.trans (hb2.mono (by omega));obtain ⟨V5,hV5⟩:∃ V5,W2.alloc (.cells #[.int .i64 0] 3)=V5:=⟨_,rfl⟩
 have hvb:Below W2.heap.size W2 V5:=by rw [<- hV5];exact (Below.refl _ _).alloc (Nat.le_refl _) _
 have hvr:V5.heap[W2.heap.size]? =some (.cells #[.int .i64 0] 3):=by rw [<- hV5];exact heap_alloc_new _ _
 have hvc:=cell_of_row _ _ 0 _ _ (0,0) hvr;have hvf:=frozen_of_row _ _ 0 _ _ hvr
 have hvs:V5.heap.size=W2.heap.size+1:=by rw [<- hV5];simp
 obtain ⟨W5,hW5⟩:∃ W5,V5.setCell ⟨W2.heap.size,0,none⟩ (.int .i64 0)=W5:=⟨_,rfl⟩
 have hb5:Below W2.heap.size W2 W5:=by rw [<- hW5];exact hvb.setCell (p:=⟨W2.heap.size,0,none⟩) (Nat.le_refl _) _
 have hs5:W5.heap.size=W2.heap.size+1:=by rw [<- hW5];simp [World.setCell,hvs]
 have hq5:W5.heap[W2.heap.size]? =some (.cells #[.int .i64 0] 3):=by rw [<- hW5];exact heap_setCell_same V5 W2.heap.size 0 _ _ _ hvr
 rw [hs2] at hvc hvf hW5;obtain ⟨y0,y1,y2⟩:=hx2.below (by omega) hb5;obtain ⟨t,rfl,hs,hnn,hn16,hok⟩:=pv_grid hv hp.g.1
 have hn:n=t*t:=by simp at hs;rcases hs with rfl|rfl|rfl<;>omega
 have hgl:=hp.g.1
 have hmr:nr<=20:=by have:=(pv_gv hv).2.1;have:=hp.r.1;omega
 have H1:=Lib.hid (show ((allS t M n gi rs).length:Nat)=((cv t gi rs (t*t) []).take M).length by rw [allS_cv hgl hv hM1 hn]);have HG:=Lib.hid (hp.g.more hp.gB);have HR:=Lib.hid (hp.r.more hp.rB);have HT:=Lib.hid (fun X (hb:Below w.heap.size w X)=>hT.below hT.lt hb);have HN:=Lib.hid hn;have HV2:=Lib.hid hv;have HB2:=Lib.hid hbW;have HR2:=Lib.hid hr2;have HSL:=Lib.hid (solutions_any t n Ag cg Ar nr cr W5);clear hok hnn hn hgl hp hT hb1 hb2 hr2 hx0 hx2 hbW hvb;refine (callsIn_wide (n:=9)).1 ?_;refine callsIn_of_wp_marks Tryz.func71 rfl trivial ?_ rfl;simp only [Tryz.ntmps71,List.size_toArray,List.length_cons,List.length_nil,Nat.reduceAdd,Nat.reduceSub,Array.replicate_succ,Array.replicate_zero,List.push_toArray,List.append_toArray,List.nil_append,List.cons_append]
 gi_wp2_with ((try refine ⟨trivial,?_⟩);gi_at_call 60;refine (callsIn_wide.2 HSL.out).mono ?_;rintro e w6 ⟨PB,rfl,hPl,hpb,hb6⟩)
 have h6:=hb6.size;have hb26:Below W2.heap.size W2 w6:=hb5.trans (hb6.mono hb5.size);have hb06:Below w.heap.size w w6:=HB2.out.trans (hb26.mono (by omega));obtain ⟨CB,hCB⟩:∃ CB,CB=w.heap.size+1+1:=⟨_,rfl⟩;rw [hs2] at hq5
 have hq6:w6.heap[CB]? =some (.cells #[.int .i64 ((0:Nat):Int)] 3):=by rw [hCB];exact (hb6.block _ (by omega)).trans hq5
 have hm6:w6.heap[w.heap.size+1]? =some (.cells #[.int .i64 (M:Int)] 3):=(hb26.block _ (by omega)).trans HR2.out;have hPB:=cell_lt hpb.1
 have d1:CB<w6.heap.size:=by omega
 have d2:w.heap.size+1<CB:=by omega
 have d3:CB<PB:=by omega
 rw [<- hCB];clear y0 y1 y2 hb5 hb6 hb26 hq5 hW1 hW2 hW5 hV5 hvr hvc hvf hvs hs1 hs2 hs5 h6 hPl hv hCB HB2 HR2 HSL;obtain ⟨CV,hCV⟩:∃ CV,CV=cv t gi rs (t*t) []:=⟨_,rfl⟩;have HSq:=sols_seq w w.heap.size PB t n Ag cg gi Ar nr cr rs (Nat.le_refl _) hs HN.out HG.out HR.out hmr HV2.out HT.out;rw [<- hCV] at HSq H1;clear hCV
 refine range_skipP 9 (by rfl) (enters_of Tryz.func110 (by kernel_rfl) rfl) HSq
  (fun pre X=>SBase w w.heap.size PB t Ag n cg Ar nr cr X/\X.heap[CB]? =some (.cells #[.int .i64 ((pre.length:Nat):Int)] 3)/\pre.length<M/\X.heap[w.heap.size+1]? =some (.cells #[.int .i64 (M:Int)] 3))
  (fun cc X=>cc=.exit 0/\Below w.heap.size w X/\X.heap[CB]? =some (.cells #[.int .i64 (M:Int)] 3)/\M<=CV.length)
  (fun pre X h=>h.1)
  (fun pre X Y h hb=>⟨⟨h.1.1.trans (hb.mono (by omega)),h.1.2.below hPB hb⟩,(hb.block _ d1).trans h.2.1,h.2.2.1,(hb.block _ (by omega)).trans h.2.2.2⟩)
  (fun cc X o h hX=>⟨h.1,h.2.1.trans (below_put_at _ (by omega) hX),(World.putObj_heap_other (by omega)).trans h.2.2.1,h.2.2.2⟩)
  ⟨⟨hb06,hpb⟩,hq6,hM1,hm6⟩ ?body ?done ?stop
 case body=>
  rintro l pre x X b n' c' ⟨⟨hBX,hpX⟩,hcX,hlt,hmX⟩ ⟨zs,hzs⟩ hbb hXs hrd
  have hlen:(pre++[x]).length=pre.length+1:=by simp
  have hCl:pre.length+1<=CV.length:=by rw [hzs];simp
  obtain ⟨k,hk⟩:∃ k,k=pre.length:=⟨_,rfl⟩;rw [<- hk] at hcX hlt hlen hCl;have hcc:=cell_of_row _ _ 0 _ _ (0,0) hcX;have hfc:=frozen_of_row _ _ 0 _ _ hcX;have hcm:=cell_of_row _ _ 0 _ _ (0,0) hmX;have Hlen:=Lib.hid hlen;have HpX:=Lib.hid hpX;have HBX:=Lib.hid hBX;have HcX:=Lib.hid hcX;have HmX:=Lib.hid hmX
  have hk6:k<600:=by omega
  clear hlen hpX hBX hcX hmX hrd hzs hk;simp only [List.setIfInBounds_toArray,List.set_cons_zero,List.set_cons_succ]
  have hm1:w6.heap.size<=X.heap.size:=by omega
  have HCl:=Lib.hid hCl
  have HE:Hid (∀ v:Int,v=(k:Int)+1->(X.setCell ⟨CB,0,none⟩ (.int .i64 ((k:Int)+1))).heap[CB]? =some (.cells #[.int .i64 v] 3)/\(X.setCell ⟨CB,0,none⟩ (.int .i64 ((k:Int)+1))).heap[w.heap.size+1]? =some (.cells #[.int .i64 (M:Int)] 3)/\Below w.heap.size w (X.setCell ⟨CB,0,none⟩ (.int .i64 ((k:Int)+1)))/\PBox (X.setCell ⟨CB,0,none⟩ (.int .i64 ((k:Int)+1))) PB t Ag n cg Ar nr cr):=Lib.hid (fun v hv=>by
   subst hv
   have hcell:∀ i,(X.setCell ⟨CB,0,none⟩ (.int .i64 ((k:Int)+1))).cell? ⟨PB,i,none⟩=X.cell? ⟨PB,i,none⟩:=fun i=>World.cell?_of_block (a:=⟨PB,i,none⟩) (heap_setCell_other X ⟨CB,0,none⟩ PB _ (fun e=>by dsimp only at e;omega))
   exact ⟨heap_setCell_same X CB 0 _ _ (.int .i64 ((k:Int)+1)) HcX.out,(heap_setCell_other X ⟨CB,0,none⟩ (w.heap.size+1) _ (fun e=>by dsimp only at e;omega)).trans HmX.out,HBX.out.setCell (p:=⟨CB,0,none⟩) (by show w.heap.size<=CB;omega) _,(hcell 0).trans HpX.out.1,(hcell 1).trans HpX.out.2.1,(hcell 2).trans HpX.out.2.2⟩)
  have HM:=Lib.hid (Mid.setCell w6.heap.size CB 0 X (.int .i64 ((k:Int)+1)) d1)
  by_cases e:k+1=M
  ·have hq:((k:Int)+1==(M:Int))=true:=by rw [beq_iff_eq];omega
   have he:=Lib.hid e;clear e hlt hCl
   gi_wp2
   obtain ⟨e1,e2,e3,e4⟩:=HE.out M (by have:=he.out;omega);exact ⟨HM.out,rfl,e3,e1,by have:=he.out;have:=HCl.out;omega⟩
  ·have hq:((k:Int)+1==(M:Int))=false:=by rw [beq_eq_false_iff_ne];omega
   have he:=Lib.hid e;have hl:=Lib.hid hlt;clear e hlt hCl
   gi_wp2
   obtain ⟨e1,e2,e3,e4⟩:=HE.out (((pre++[x]).length:Nat):Int) (by rw [Hlen.out];omega);exact ⟨HM.out,⟨e3,e4⟩,e1,by rw [Hlen.out];have:=he.out;have:=hl.out;omega,e2⟩
 case done=>
  rintro D W hD ⟨⟨hBX,_⟩,hcX,hlt,_⟩ hK;have hcc:=cell_of_row _ _ 0 _ _ (0,0) hcX;have H2:=Lib.hid (show (CV.take M).length=CV.length from cs_take hlt);clear hlt
  gi_wp2
  refine ⟨by simp,.inl ⟨_,_,rfl,run_takeDeferred hK,?_⟩⟩;exact ⟨_,results_tmp rfl _ _ _,by rw [H1.out,H2.out];rfl,hBX.trans (below_put _ (by omega) hK)⟩
 case stop=>
  rintro D cc W hD ⟨rfl,hBX,hcX,hM⟩ hK;have hcc:=cell_of_row _ _ 0 _ _ (0,0) hcX;have H2:=Lib.hid (show (CV.take M).length=M by rw [List.length_take];omega);clear hM
  gi_wp2
  refine ⟨by simp,.inl ⟨_,_,rfl,run_takeDeferred hK,?_⟩⟩;exact ⟨_,results_tmp rfl _ _ _,by rw [H1.out,H2.out];rfl,hBX.trans (below_put _ (by omega) hK)⟩
set_option maxHeartbeats 1000000 in
theorem hasOne_any (s:Int) (Ag:Option Addr) (n cg Bg:Nat) (gi:List Int) (Ar:Option Addr) (nr cr Br:Nat) (rs:List RuleM) (w:World) (hp:PGc w s Ag n cg Bg gi Ar nr cr Br rs) (hv:pvB s gi rs=true) (hT:Tz w):
 Calls Tryz.prog 53 #[.agg #[.int .i64 s,.slice Ag n cg,.slice Ar nr cr]] w fun e w'=>e=.returned (.bool (oneB s n gi rs))/\Below w.heap.size w w':=by
 have hx0:=pbox_new w s Ag n cg Ar nr cr 26;have hb0:Below w.heap.size w (w.alloc (.cells #[.int .i64 s,.slice Ag n cg,.slice Ar nr cr] 26)):=(Below.refl _ _).alloc (Nat.le_refl _) _;have HC:=Lib.hid (show Calls Tryz.prog 71 #[.agg #[.int .i64 s,.slice Ag n cg,.slice Ar nr cr],.int .i64 2] _ _ from countP_any s Ag n cg Bg gi Ar nr cr Br rs 2 _ (hp.below hb0) hv (by omega) (by omega) (hT.below hT.lt hb0));obtain ⟨z0,z1,z2⟩:=id hx0
 have HQ:=Lib.hid (show ((((allS s 2 n gi rs).length:Nat):Int)==1)=oneB s n gi rs by
  unfold oneB;rw [Bool.eq_iff_iff];simp only [beq_iff_eq]
  omega)
 go_enter Tryz.func53,Tryz.ntmps53
 go_wp2_with (go_at_call 71;refine HC.out.mono ?_;rintro e w1 ⟨rfl,hb1⟩)
 go_ret
 exact ⟨by rw [HQ.out];rfl,step hb0 hb1⟩
set_option maxHeartbeats 2000000 in
theorem implCountSolutions (s:Int) (Ag:Option Addr) (n cg Bg:Nat) (gi:List Int) (Ar:Option Addr) (nr cr Br:Nat) (rs:List RuleM) (most:Int) (w:World) (hp:PGc w s Ag n cg Bg gi Ar nr cr Br rs) (hT:Tz w):
 Calls Tryz.prog 23 #[.agg #[.int .i64 s,.slice Ag n cg,.slice Ar nr cr],.int .i64 most] w fun e w'=>e=.returned (.int .i64 (csI s n gi rs most))/\Below w.heap.size w w':=by
 have hx0:=pbox_new w s Ag n cg Ar nr cr 26;have hb0:Below w.heap.size w (w.alloc (.cells #[.int .i64 s,.slice Ag n cg,.slice Ar nr cr] 26)):=(Below.refl _ _).alloc (Nat.le_refl _) _
 have hs0:w.heap.size<(w.alloc (.cells #[.int .i64 s,.slice Ag n cg,.slice Ar nr cr] 26)).heap.size:=by simp
 obtain ⟨z0,z1,z2⟩:=id hx0;have HV:=Lib.hid (valid_any s Ag n cg Bg gi Ar nr cr Br rs _ (hp.below hb0));cases hv:pvB s gi rs
 ·have H1:=Lib.hid (show csI s n gi rs most= -1 by simp [csI,hv])
  go_enter Tryz.func23,Tryz.ntmps23
  go_wp2_with (go_at_call 52;refine HV.out.mono ?_;rintro e w4 ⟨rfl,hb4⟩;rw [hv])
  go_ret
  exact ⟨by rw [H1.out];rfl,step hb0 hb4⟩
 ·by_cases hlo:most<1
  ·have H1:=Lib.hid (show csI s n gi rs most= -1 by
    have:inr most 1 600=false:=(by unfold inr;simp;omega)
    simp [csI,this])
   go_enter Tryz.func23,Tryz.ntmps23
   go_wp2_with (go_at_call 52;refine HV.out.mono ?_;rintro e w4 ⟨rfl,hb4⟩;rw [hv])
   go_ret
   exact ⟨by rw [H1.out];rfl,step hb0 hb4⟩
  ·by_cases hhi:600<most
   ·have H1:=Lib.hid (show csI s n gi rs most= -1 by
     have:inr most 1 600=false:=(by unfold inr;simp;omega)
     simp [csI,this])
    go_enter Tryz.func23,Tryz.ntmps23
    go_wp2_with (go_at_call 52;refine HV.out.mono ?_;rintro e w4 ⟨rfl,hb4⟩;rw [hv])
    go_ret
    exact ⟨by rw [H1.out];rfl,step hb0 hb4⟩
   ·obtain ⟨M,rfl⟩:=Int.eq_ofNat_of_zero_le (show 0<=most by omega)
    have H1:=Lib.hid (show csI s n gi rs (M:Nat)=((allS s M n gi rs).length:Nat) by
     have:inr (M:Int) 1 600=true:=(by unfold inr;simp;omega)
     simp only [csI,hv,this,Bool.true_and,if_true,Int.toNat_natCast])
    have HC:=Lib.hid (fun w' (hb:Below w.heap.size w w')=>countP_any s Ag n cg Bg gi Ar nr cr Br rs M w' (hp.below hb) hv (by omega) (by omega) (hT.below hT.lt hb))
    go_enter Tryz.func23,Tryz.ntmps23
    go_wp2_with (first
     |(go_at_call 52;refine HV.out.mono ?_;rintro e w4 ⟨rfl,hb4⟩;rw [hv];have h04:=step hb0 hb4;obtain ⟨y0,y1,y2⟩:=hx0.below hs0 hb4)
     |(go_at_call 71;refine (HC.out _ h04).mono ?_;rintro e w5 ⟨rfl,hb5⟩))
    go_ret
    exact ⟨by rw [H1.out];rfl,step h04 hb5⟩
end Go.Proofs.YtlnmioijgclndaaGreatDoor
namespace Go.Proofs.YtlnmioijgclndaaGreatDoor
open Go.ChangeShapes Go.WideShapes Go.ChangeAt Go.RowKit
theorem start_em {gi:List Int} {s n:Nat} (hl:gi.length=n) (hok:∀ k,k<n->0<=nth gi k) (hs:s∈[2,3,4]):mapTo (startC gi s) n=emL gi s:=by
 apply ext_nth (by rw [mapTo_length,emL_len_ hl])
 intro k hk;rw [mapTo_length] at hk;rw [mapTo_nth hk,emL_at hl hk];have h0:=hok k hk;unfold startC emN
 by_cases e:nth gi k=0
 ·rw [if_neg (by omega),if_pos e]
  simp at hs
  rcases hs with rfl|rfl|rfl<;>rfl
 ·rw [if_pos (by omega),if_neg e]
  simp
theorem implStartMasks (s:Int) (Ag:Option Addr) (n cg Bg:Nat) (gi:List Int) (Ar:Option Addr) (nr cr Br:Nat) (rs:List RuleM) (w:World) (hp:PGc w s Ag n cg Bg gi Ar nr cr Br rs):
 Calls Tryz.prog 18 #[.agg #[.int .i64 s,.slice Ag n cg,.slice Ar nr cr]] w (RetSl w (startL s gi rs n)):=by
 have hx0:=pbox_new w s Ag n cg Ar nr cr 26;have hb0:Below w.heap.size w (w.alloc (.cells #[.int .i64 s,.slice Ag n cg,.slice Ar nr cr] 26)):=(Below.refl _ _).alloc (Nat.le_refl _) _
 have hs0:w.heap.size<(w.alloc (.cells #[.int .i64 s,.slice Ag n cg,.slice Ar nr cr] 26)).heap.size:=by simp
 obtain ⟨z0,z1,z2⟩:=id hx0;have HV:=Lib.hid (valid_any s Ag n cg Bg gi Ar nr cr Br rs _ (hp.below hb0));cases hv:pvB s gi rs
 ·have HL:=Lib.hid (show startL s gi rs n=[] by simp [startL,hv])
  go_enter Tryz.func18,Tryz.ntmps18
  go_wp2_with (go_at_call 52;refine HV.out.mono ?_;rintro e w1 ⟨rfl,hb1⟩;rw [hv])
  go_ret
  rw [HL.out];exact ⟨_,_,rfl,Ow.nil_ _ _,step hb0 hb1⟩
 ·obtain ⟨t,rfl,hs,_,hn16,hok⟩:=pv_grid hv hp.g.1
  have hs4:t<=4:=by simp at hs;omega
  have hlen:=hp.g.1
  have HL:=Lib.hid (show startL t gi rs n=emL gi t by
   rw [<- start_em hlen (fun k hk=>(hok k hk).1) hs]
   simp [startL,hv])
  have Hel:=Lib.hid (emL_len_ (s:=t) hlen);have HO:=Lib.hid (fun w' (hb:Below w.heap.size w w')=>openMasks_any Ag cg n Bg gi t w' (hp.below hb).g (hp.below hb).gB hn16 hs (fun i hi=>by have:=hok i hi;omega));clear hok
  go_enter Tryz.func18,Tryz.ntmps18
  go_wp2_with (first
   |(go_at_call 52;refine HV.out.mono ?_;rintro e w1 ⟨rfl,hb1⟩;rw [hv];have h01:=step hb0 hb1;obtain ⟨c0,c1,c2⟩:=hx0.below hs0 hb1)
   |(go_at_call 63;refine (HO.out _ h01).mono ?_;rintro e w2 ⟨A2,c2',rfl,ho2,hb2⟩))
  go_ret
  rw [HL.out];exact ⟨_,_,rfl,ho2.mono h01.size,step h01 hb2⟩
theorem start_mvdM {s:Int} {gi:List Int} {rs:List RuleM} {n:Nat} (hl:gi.length=n) (hv:pvB s gi rs=true):(startL s gi rs n).length=n/\mvd (startL s gi rs n) s=true:=by
 obtain ⟨t,rfl,hs,hn,_,hok⟩:=pv_grid hv hl
 have e:startL t gi rs n=mapTo (startC gi t) n:=by simp [startL,hv]
 rw [e];refine ⟨mapTo_length _ _,?_⟩;simp only [mvd,Bool.and_eq_true,beq_iff_eq,mapTo_length,Int.toNat_natCast];refine ⟨⟨by simp at hs;simp [inr];omega,hn⟩,allTo_all (n:=n) (fun k hk=>?_) (mapTo_length _ _)⟩;rw [mapTo_nth hk];obtain ⟨y0,y1⟩:=hok k hk;unfold startC
 have hk4:nth gi k=0\/nth gi k=1\/nth gi k=2\/nth gi k=3\/nth gi k=4:=by simp at hs;omega
 simp at hs
 rcases hs with rfl|rfl|rfl<;>rcases hk4 with h|h|h|h|h<;>rw [h] at y1 ⊢ <;>first|(exfalso;revert y1;decide)|decide
theorem start_have {t:Nat} {gi y:List Int} {rs:List RuleM} {n:Nat} (hs:t∈[2,3,4]) (hl:gi.length=n) (hp:psB t gi rs y=true):mhB (startL t gi rs n) t y=true:=by
 unfold psB at hp;rw [Bool.and_eq_true] at hp;obtain ⟨hpv,hg,h1,_,_⟩:=fp_parts.1 hp.1;obtain ⟨hsl,hsv⟩:=start_mvdM hl hpv
 have hgf:gf y t=(cnz y y.length:Int):=by simp [gf,hg]
 have hc:cnz y y.length=y.length:=by have:=hp.2;rw [hgf,beq_iff_eq] at this;omega
 have hn:=cnz_all hc
 have e:startL t gi rs n=mapTo (startC gi t) n:=by simp [startL,hpv]
 have hyl:=gv_len hg;have hgl:=gv_len (pv_gv hpv).1
 have hyn:y.length=n:=by omega
 unfold mhB;rw [hsv,hg,Bool.true_and,Bool.true_and];refine all_done (fun k hk=>?_);have a1:=hn k hk;have a2:=gv_nth hg hk;have a3:=gv_nth (pv_gv hpv).1 (show k<gi.length by omega);have a4:=h1 k hk;rw [hyn] at hk;unfold inMask;rw [e,mapTo_nth hk];unfold startC;unfold giveOk at a4
 have t4:t=2\/t=3\/t=4:=by simpa using hs
 have y4:nth y k=1\/nth y k=2\/nth y k=3\/nth y k=4:=by omega
 have g4:nth gi k=0\/nth gi k=1\/nth gi k=2\/nth gi k=3\/nth gi k=4:=by omega
 clear hs hl hp hpv hg h1 hsl hsv hgf hc hn e hyl hgl hyn hk
 generalize nth y k=a at*
 generalize nth gi k=b at*
 rcases t4 with rfl|rfl|rfl<;>rcases y4 with rfl|rfl|rfl|rfl<;>rcases g4 with rfl|rfl|rfl|rfl|rfl<;>first|decide|(exfalso;omega)|(exfalso;revert a4;decide)
section
variable {P : Program} {md : Region.Mode} {ops : Array Oper} {Q : Exit → Act → World → Prop} {Inv : Array Bool → Act → World → Prop}
end
structure MwR (G R:Nat) (W w:World):Prop where
 os:w.os=W.os
 tape:w.tape=W.tape
 output:w.output=W.output
 size:W.heap.size<=w.heap.size
 same:∀ k,k<W.heap.size->k≠G->k≠R->w.heap[k]? =W.heap[k]?
 row:∀ cs:Array Value,W.heap[R]? =some (.cells cs 26)->cs.size=3->∃ cs':Array Value,w.heap[R]? =some (.cells cs' 26)/\cs'.size=3
theorem MwR.trans {G R:Nat} {a b c:World} (h:MwR G R a b) (k:MwR G R b c):MwR G R a c:=
 ⟨k.os.trans h.os,k.tape.trans h.tape,k.output.trans h.output,Nat.le_trans h.size k.size,fun i hi h1 h2=>(k.same i (Nat.lt_of_lt_of_le hi h.size) h1 h2).trans (h.same i hi h1 h2),fun cs h1 h2=>by
   obtain ⟨c1,e1,e2⟩:=h.row cs h1 h2
   exact k.row c1 e1 e2⟩
theorem heap_alloc_old {w:World} {R:Nat} (hR:R<w.heap.size) (o:Obj):(w.alloc o).heap[R]? =w.heap[R]? :=((Below.refl _ w).alloc (Nat.le_refl _) o).block R hR
structure Aside (D:Nat) (X Y:World):Prop where
 os:Y.os=X.os
 tape:Y.tape=X.tape
 output:Y.output=X.output
 size:X.heap.size<=Y.heap.size
 block:∀ k,k<X.heap.size->k≠D->k≠D+1->Y.heap[k]? =X.heap[k]?
theorem Aside.of_below {D:Nat} {X Y:World} (h:Below X.heap.size X Y):Aside D X Y:=⟨h.os,h.tape,h.output,h.size,fun k hk _ _=>h.block k hk⟩
theorem Aside.of_put {D l:Nat} {X:World} (o:Obj) (h:l=D\/l=D+1):Aside D X (X.putObj l o):=
 ⟨rfl,rfl,rfl,by simp,fun k _ h1 h2=>World.putObj_heap_other (by omega)⟩
theorem Aside.below {D:Nat} {X Y:World} (h:Aside D X Y) (hD:D<=X.heap.size):Below D X Y:=⟨h.os,h.tape,h.output,h.size,fun k hk=>h.block k (by omega) (by omega) (by omega)⟩
def SeqT (P:Program) (gf:Nat) (lb:Array Value) (Base:World->Prop) (rounds:List (Nat×List Int)):Prop:=
 ∀ (l:Nat) (J:List (Nat×List Int)->World->Prop) (Jx:World->Prop) (W:World),
   (∀ pre X,J pre X->Base X)->
   (∀ pre X Y,J pre X->Below X.heap.size X Y->J pre Y)->
   (∀ X Y,Jx X->Below X.heap.size X Y->Jx Y)->
   (∀ pre t x X b n c,J pre X->(∃ tl,rounds=pre++(t,x)::tl)->W.heap.size<=b->Ow X W.heap.size (some ⟨b,0,none⟩) n c x->
     YieldAt Fence.wide 0 P l #[.int .i64 (t:Nat),.slice (some ⟨b,0,none⟩) n c] X fun e Y=>X.heap.size<=Y.heap.size/\Y.heap[b]? =X.heap[b]? /\((e=.returned (.bool true)/\J (pre++[(t,x)]) Y)\/(e=.returned (.bool false)/\Jx Y)))->
   J [] W->
   Calls P gf (#[.func (.yield l) #[] #[]]++lb) W fun e Y=>(∃ v,e=.returned v)/\(J rounds Y\/Jx Y)
def rndPost (D b:Nat) (I:List (Nat×List Int)->World->Prop) (Ix:Code->World->Prop) (xs:List (Nat×List Int)) (X:World):Exit->Act->World->Prop
 |.normal,_,Y=>(X.heap.size<=Y.heap.size/\∀ k,k=b\/k=D\/k=D+1->Y.heap[k]? =X.heap[k]?)/\I xs Y
 |.ret,_,Y=>(X.heap.size<=Y.heap.size/\∀ k,k=b\/k=D\/k=D+1->Y.heap[k]? =X.heap[k]?)/\Ix .ret Y
 |.exit id,_,Y=>(X.heap.size<=Y.heap.size/\∀ k,k=b\/k=D\/k=D+1->Y.heap[k]? =X.heap[k]?)/\Ix (.exit id) Y
 |.goto t,_,Y=>(X.heap.size<=Y.heap.size/\∀ k,k=b\/k=D\/k=D+1->Y.heap[k]? =X.heap[k]?)/\Ix (.goto t) Y
 |.panic _,_,_=>False
 |.outgrown,_,_=>False
theorem range_rounds {P:Program} (m:Nat) {g:Operand} {ps:Array Tmp} {assign body:Code} {Q:Exit->Act->World->Prop} {a:Act} {w:World}
 {gf:Nat} {lb:Array Value} (hg:a.eval g=.func (.func gf) #[] lb) (eg:∀ args w,(callFunc gf args).run P w=.ok (.enter gf args) w) (hps:ps.size=2)
 {Base:World->Prop} {rounds:List (Nat×List Int)} (hseq:SeqT P gf lb Base rounds)
 (I:List (Nat×List Int)->World->Prop) (Ix:Code->World->Prop) (hIb:∀ pre X,I pre X->Base X)
 (hI:∀ pre X Y,I pre X->Aside w.heap.size X Y->I pre Y) (hIx:∀ c X Y,Ix c X->Aside w.heap.size X Y->Ix c Y) (h0:I [] w) (a₁:Value->Value->Act)
 (hassign:∀ (l:Nat) (u v:Value) (W:World) (K:Act->World->Prop),K (a₁ u v) W->
   assign.wpIn (Fence.wide.inRound l) m P (Exit.then K (fun _ _ _=>False)) { tmps:=(ps.zip #[u,v]).foldl (fun t (p,v)=>t.setIfInBounds p v) a.tmps,defers:=[] } W)
 (hbody:∀ (l:Nat) (pre:List (Nat×List Int)) (t:Nat) (x:List Int) (X:World) (b n c:Nat),I pre X->(∃ tl,rounds=pre++(t,x)::tl)->w.heap.size+2<=b->w.heap.size+2<=X.heap.size->Ow X (w.heap.size+2) (some ⟨b,0,none⟩) n c x->(∃ o,X.heap[w.heap.size]? =some (.deferred o))->(∃ o,X.heap[w.heap.size+1]? =some (.loop o))->
   body.wpIn (Fence.wide.inRound l) m P (rndPost w.heap.size b I Ix (pre++[(t,x)]) X) (a₁ (.int .i64 (t:Nat)) (.slice (some ⟨b,0,none⟩) n c)) X)
 (hdone:∀ (D:Nat) (W:World),w.heap.size<=D->I rounds W->W.heap[D]? =some (.deferred (some []))->Q .normal { a with defers:={ target:=.collected D,args:= #[] }::a.defers } W)
 (hstop:∀ (D:Nat) (c:Code) (W:World),w.heap.size<=D->Ix c W->W.heap[D]? =some (.deferred (some []))->c.wpIn Fence.wide m P Q { a with defers:={ target:=.collected D,args:= #[] }::a.defers } W):
 (Code.rangeFunc g ps assign body).wpIn Fence.wide m P Q a w:=by
 refine wpIn_rangeFunc ?_;intro fn _
 obtain ⟨rec,hrec⟩:∃ rec:LoopState->Option Code->Loop,rec=fun st pe=>{ state:=st,pending:=pe,fn,tmps:=a.tmps,params:=ps,assign,body,defers:=w.heap.size }:=⟨_,rfl⟩
 obtain ⟨W1,hW1⟩:∃ W1,(w.alloc (.deferred (some []))).alloc (.loop (rec .ready none))=W1:=⟨_,rfl⟩
 have hs1:W1.heap.size=w.heap.size+2:=by rw [<- hW1];simp
 have hL1:W1.heap[w.heap.size+1]? =some (.loop (rec .ready none)):=by
  rw [<- hW1];have:=World.alloc_heap_new (w.alloc (.deferred (some []))) (.loop (rec .ready none));rwa [World.size_alloc] at this
 have hK1:W1.heap[w.heap.size]? =some (.deferred (some [])):=by
  rw [<- hW1];exact (Below.heap_alloc _ _ _ (by simp)).trans (World.alloc_heap_new w _)
 have hb1:Below w.heap.size w W1:=by
  rw [<- hW1];exact ((Below.refl _ w).alloc (Nat.le_refl _) _).alloc (by simp) _
 refine ⟨w.heap.size+1,[{ target:=.collected w.heap.size,args:= #[] }],W1,{ target:=.fn (.func gf) lb,args:= #[.func (.yield (w.heap.size+1)) #[] #[]] },W1,gf,
  #[.func (.yield (w.heap.size+1)) #[] #[]]++lb,W1,?_,?_,?_,?_,fun h=>by simp [Fence.wide] at h,?_⟩
 ·rw [<- hW1,hrec];exact run_enterLoop_outer _ _ _ _ _
 ·simp only [resolve,hg]
  simp [go_sem]
 ·intro f' _;trivial
 ·simp [invoke,go_sem,eg]
 ·refine callsIn_wide.2 ((hseq (w.heap.size+1)
   (fun pre W=>I pre W/\W.heap[w.heap.size+1]? =some (.loop (rec .ready none))/\W.heap[w.heap.size]? =some (.deferred (some [])))
   (fun W=>∃ c,Ix c W/\W.heap[w.heap.size+1]? =some (.loop (rec .done (some c)))/\W.heap[w.heap.size]? =some (.deferred (some [])))
   W1 (fun pre X h=>hIb pre X h.1)
   (fun pre X Y hs hb=>⟨hI pre X Y hs.1 (Aside.of_below hb),(hb.block _ (Array.getElem?_eq_some_iff.1 hs.2.1).1).trans hs.2.1,(hb.block _ (Array.getElem?_eq_some_iff.1 hs.2.2).1).trans hs.2.2⟩)
   (fun X Y hs hb=>by
     obtain ⟨c,h1,h2,h3⟩:=hs
     exact ⟨c,hIx c X Y h1 (Aside.of_below hb),(hb.block _ (Array.getElem?_eq_some_iff.1 h2).1).trans h2,(hb.block _ (Array.getElem?_eq_some_iff.1 h3).1).trans h3⟩)
   ?_ ⟨hI [] w W1 h0 ⟨hb1.os,hb1.tape,hb1.output,hb1.size,fun k hk _ _=>hb1.block k hk⟩,hL1,hK1⟩).mono ?_)
  ·rintro pre t x X b n c ⟨hi,hl,hk⟩ hx hbw hown;have hlt:w.heap.size+1<X.heap.size:=(Array.getElem?_eq_some_iff.1 hl).1;have hy:=run_yield (P:=P) (args:= #[.int .i64 (t:Nat),.slice (some ⟨b,0,none⟩) n c]) hl (by rw [hrec];simp [hps]);rw [hrec] at hy;refine ⟨fn,_,assign,body,hy,roundIn_any (m:=m) (roundIn_of_wpIn trivial (hassign _ (.int .i64 (t:Nat)) (.slice (some ⟨b,0,none⟩) n c) X _ ⟨_,run_beginRound hl (by rw [hrec]),?_⟩))⟩;obtain ⟨X2,hX2⟩:∃ X2,X.putObj (w.heap.size+1) (.loop { rec .ready none with state:=.busy })=X2:=⟨_,rfl⟩;have hl2:X2.heap[w.heap.size+1]? =some (.loop { rec .ready none with state:=.busy }):=(by rw [<- hX2];exact World.putObj_heap_same hlt)
   have hk2:X2.heap[w.heap.size]? =some (.deferred (some [])):=(by rw [<- hX2];exact (World.putObj_heap_other (by omega)).trans hk);have hA2:Aside w.heap.size X X2:=(by rw [<- hX2];exact Aside.of_put _ (.inr rfl));have hb2:X2.heap[b]? =X.heap[b]? :=(by rw [<- hX2];exact World.putObj_heap_other (by omega));have hown2:Ow X2 (w.heap.size+2) (some ⟨b,0,none⟩) n c x:=(by rw [<- hs1];exact hown.same hb2);have hsz2:=hA2.size;rw [hX2];refine wpIn_mono (hbody _ pre t x X2 b n c (hI _ _ _ hi hA2) hx (by omega) (by omega) hown2 ⟨_,hk2⟩ ⟨_,hl2⟩) ?_
   have fin:∀ (jump:Option Code) (W3:World),(X2.heap.size<=W3.heap.size/\∀ k,k=b\/k=w.heap.size\/k=w.heap.size+1->W3.heap[k]? =X2.heap[k]?)->
       (Instr.endRound (w.heap.size+1) jump).run P W3=.ok (.bool jump.isNone) (W3.putObj (w.heap.size+1) (.loop (rec (if jump.isNone then .ready else .done) jump)))/\
       Aside w.heap.size W3 (W3.putObj (w.heap.size+1) (.loop (rec (if jump.isNone then .ready else .done) jump)))/\
       X.heap.size<=(W3.putObj (w.heap.size+1) (.loop (rec (if jump.isNone then .ready else .done) jump))).heap.size/\
       (W3.putObj (w.heap.size+1) (.loop (rec (if jump.isNone then .ready else .done) jump))).heap[b]? =X.heap[b]? /\
       (W3.putObj (w.heap.size+1) (.loop (rec (if jump.isNone then .ready else .done) jump))).heap[w.heap.size+1]? =some (.loop (rec (if jump.isNone then .ready else .done) jump))/\
       (W3.putObj (w.heap.size+1) (.loop (rec (if jump.isNone then .ready else .done) jump))).heap[w.heap.size]? =some (.deferred (some [])):=fun jump W3 hk3=>by
    have hl3:=(hk3.2 (w.heap.size+1) (by omega)).trans hl2;have hlt3:=(Array.getElem?_eq_some_iff.1 hl3).1;have:=run_endRound (P:=P) jump hl3;rw [hrec] at this ⊢;exact ⟨this,Aside.of_put _ (.inr rfl),by have:=hk3.1;simp;omega,(World.putObj_heap_other (by omega)).trans ((hk3.2 b (.inl rfl)).trans hb2),World.putObj_heap_same hlt3,(World.putObj_heap_other (by omega)).trans ((hk3.2 _ (.inr (.inl rfl))).trans hk2)⟩
   rintro e a3 W3 hp
   cases e with
   |normal=>
    obtain ⟨hk3,hi3⟩:=hp;obtain ⟨hr,hb4,hm4,hm5,hl4,hk4⟩:=fin none W3 hk3;exact ⟨_,_,hr,hm4,hm5,.inl ⟨rfl,hI _ _ _ hi3 hb4,hl4,hk4⟩⟩
   |ret=>
    obtain ⟨hk3,hi3⟩:=hp;obtain ⟨hr,hb4,hm4,hm5,hl4,hk4⟩:=fin (some .ret) W3 hk3;exact ⟨_,_,hr,hm4,hm5,.inr ⟨rfl,.ret,hIx _ _ _ hi3 hb4,hl4,hk4⟩⟩
   |exit id=>
    obtain ⟨hk3,hi3⟩:=hp;obtain ⟨hr,hb4,hm4,hm5,hl4,hk4⟩:=fin (some (.exit id)) W3 hk3;exact ⟨_,_,hr,hm4,hm5,.inr ⟨rfl,.exit id,hIx _ _ _ hi3 hb4,hl4,hk4⟩⟩
   |goto t'=>
    obtain ⟨hk3,hi3⟩:=hp;obtain ⟨hr,hb4,hm4,hm5,hl4,hk4⟩:=fin (some (.goto t')) W3 hk3;exact ⟨_,_,hr,hm4,hm5,.inr ⟨rfl,.goto t',hIx _ _ _ hi3 hb4,hl4,hk4⟩⟩
   |panic ch=>exact hp.elim
   |outgrown=>exact hp.elim
  ·rintro e W2 ⟨⟨v,rfl⟩,(⟨hi,hl,hk⟩|⟨c,hi,hl,hk⟩)⟩
   ·exact ⟨none,_,by have:=run_endLoop (P:=P) hl (by rw [hrec];simp);rw [hrec] at this;exact this,hdone _ _ (Nat.le_refl _) (hI _ _ _ hi (Aside.of_put _ (.inr rfl))) ((World.putObj_heap_other (by omega)).trans hk)⟩
   ·exact ⟨some c,_,by have:=run_endLoop (P:=P) hl (by rw [hrec];simp);rw [hrec] at this;exact this,hstop _ c _ (Nat.le_refl _) (hIx _ _ _ hi (Aside.of_put _ (.inr rfl))) ((World.putObj_heap_other (by omega)).trans hk)⟩
theorem range_rounds2 {P:Program} (m:Nat) {g:Operand} {p p' q:Nat} {assign body:Code} {Q:Exit->Act->World->Prop} {a:Act} {w:World}
 {gf:Nat} {lb:Array Value} (hg:a.eval g=.func (.func gf) #[] lb) (eg:∀ args w,(callFunc gf args).run P w=.ok (.enter gf args) w)
 {Base:World->Prop} {rounds:List (Nat×List Int)} (hseq:SeqT P gf lb Base rounds)
 (I:List (Nat×List Int)->World->Prop) (Ix:Code->World->Prop) (hIb:∀ pre X,I pre X->Base X)
 (hI:∀ pre X Y,I pre X->Aside w.heap.size X Y->I pre Y) (hIx:∀ c X Y,Ix c X->Aside w.heap.size X Y->Ix c Y) (h0:I [] w)
 (hassign:∀ (l:Nat) (u v:Value) (W:World) (K:Act->World->Prop),K { tmps:=((a.tmps.setIfInBounds p u).setIfInBounds p' v).setIfInBounds q v,defers:=[] } W->
   assign.wpIn (Fence.wide.inRound l) m P (Exit.then K (fun _ _ _=>False)) { tmps:=(a.tmps.setIfInBounds p u).setIfInBounds p' v,defers:=[] } W)
 (hbody:∀ (l:Nat) (pre:List (Nat×List Int)) (t:Nat) (x:List Int) (X:World) (b n c:Nat),I pre X->(∃ tl,rounds=pre++(t,x)::tl)->w.heap.size+2<=b->w.heap.size+2<=X.heap.size->Ow X (w.heap.size+2) (some ⟨b,0,none⟩) n c x->(∃ o,X.heap[w.heap.size]? =some (.deferred o))->(∃ o,X.heap[w.heap.size+1]? =some (.loop o))->
   body.wpIn (Fence.wide.inRound l) m P (rndPost w.heap.size b I Ix (pre++[(t,x)]) X) { tmps:=((a.tmps.setIfInBounds p (.int .i64 (t:Nat))).setIfInBounds p' (.slice (some ⟨b,0,none⟩) n c)).setIfInBounds q (.slice (some ⟨b,0,none⟩) n c),defers:=[] } X)
 (hdone:∀ (D:Nat) (W:World),w.heap.size<=D->I rounds W->W.heap[D]? =some (.deferred (some []))->Q .normal { a with defers:={ target:=.collected D,args:= #[] }::a.defers } W)
 (hstop:∀ (D:Nat) (c:Code) (W:World),w.heap.size<=D->Ix c W->W.heap[D]? =some (.deferred (some []))->c.wpIn Fence.wide m P Q { a with defers:={ target:=.collected D,args:= #[] }::a.defers } W):
 (Code.rangeFunc g #[p,p'] assign body).wpIn Fence.wide m P Q a w:=
 range_rounds m hg eg rfl hseq I Ix hIb hI hIx h0 (fun u v=>{ tmps:=((a.tmps.setIfInBounds p u).setIfInBounds p' v).setIfInBounds q v,defers:=[] }) (fun l u v W K hK=>by
  simpa using hassign l u v W K hK) hbody hdone hstop
def roF (s:Int) (gi:List Int) (rs:List RuleM) (most:Nat):Nat->List Int->List (Nat×List Int)
 |0,_=>[]
 |f+1,o=>match ntF s gi rs o most 1 with
  |none=>[]
  |some q=>(q.2,q.1)::roF s gi rs most f q.1
def lastO (o:List Int):List (Nat×List Int)->List Int
 |[]=>o
 |x::L=>lastO x.2 L
theorem lastO_push (o:List Int) (L:List (Nat×List Int)) (x:Nat×List Int):lastO o (L++[x])=x.2:=by
 induction L generalizing o with
 |nil=>rfl
 |cons y L ih=>exact ih y.2
theorem naI_ro {s:Int} {gi:List Int} {rs:List RuleM} {most:Nat}:∀ f o r,naI s gi rs most f o r=(lastO o (roF s gi rs most f o),r+(roF s gi rs most f o).length):=by
 intro f
 induction f with
 |zero=>intro o r;rfl
 |succ f ih=>
  intro o r;simp only [naI,roF]
  cases ntF s gi rs o most 1 with
  |none=>rfl
  |some q=>simp only [ih,lastO,List.length_cons];congr 1;omega
section
variable {s : Int} {gi : List Int} {rs : List RuleM} {most : Nat}
theorem roF_fuel (hv:pvB s gi rs=true) (h4:most<=4):∀ f f' o,mvd o s=true->sumTo o o.length<f->sumTo o o.length<f'->roF s gi rs most f o=roF s gi rs most f' o:=by
 intro f
 induction f with
 |zero=>intro f' o _ h _;omega
 |succ f ih=>
  intro f' o hm h1 h2
  match f',h2 with
  |0,h2=>omega
  |f'+1,h2=>
   simp only [roF]
   cases e:ntF s gi rs o most 1 with
   |none=>rfl
   |some q=>
    obtain ⟨_,q2,q3⟩:=ntF_sub hv h4 hm (q:=q.1) (u:=q.2) e;simp only [ih f' q.1 q2 (by omega) (by omega)]
theorem roF_len (hv:pvB s gi rs=true) (h4:most<=4):∀ f o,mvd o s=true->(roF s gi rs most f o).length<=sumTo o o.length:=by
 intro f
 induction f with
 |zero=>intro o _;exact Nat.zero_le _
 |succ f ih=>
  intro o hm;simp only [roF]
  cases e:ntF s gi rs o most 1 with
  |none=>exact Nat.zero_le _
  |some q=>
   obtain ⟨_,q2,q3⟩:=ntF_sub hv h4 hm (q:=q.1) (u:=q.2) e;have:=ih q.1 q2;simp only [List.length_cons];omega
theorem roF_mem (P:List Int->Prop) (hv:pvB s gi rs=true) (h4:most<=4) (hP:∀ o t,mvd o s=true->1<=t->t<=most->P o->P (nbL s gi rs o (t:Nat))):∀ f o,mvd o s=true->P o->∀ x∈roF s gi rs most f o,1<=x.1/\x.1<=most/\P x.2/\mvd x.2 s=true/\Sub x.2 o:=by
 intro f
 induction f with
 |zero=>intro o _ _ x hx;cases hx
 |succ f ih=>
  intro o hm h x hx;simp only [roF] at hx
  cases e:ntF s gi rs o most 1 with
  |none=>rw [e] at hx;cases hx
  |some q=>
   rw [e] at hx;obtain ⟨h1,h2,h3,_,_⟩:=ntF_some (q:=q.1) (u:=q.2) e;obtain ⟨q1,q2,_⟩:=ntF_sub hv h4 hm (q:=q.1) (u:=q.2) e;have hPq:P q.1:=(by rw [h3];exact hP o _ hm (by omega) (by omega) h)
   rcases List.mem_cons.1 hx with rfl|hx
   ·exact ⟨by dsimp only;omega,by dsimp only;omega,hPq,q2,q1⟩
   ·obtain ⟨a1,a2,a3,a4,a5⟩:=ih q.1 q2 hPq x hx;exact ⟨a1,a2,a3,a4,a5.trans q1⟩
def roE (s:Int) (gi:List Int) (rs:List RuleM) (most:Nat) (o:List Int):List (Nat×List Int):=roF s gi rs most (sumTo o o.length+1) o
theorem roE_none {o:List Int} (h:ntF s gi rs o most 1=none):roE s gi rs most o=[]:=by simp only [roE,roF,h]
theorem roE_some {o q:List Int} {u:Nat} (hv:pvB s gi rs=true) (h4:most<=4) (hm:mvd o s=true) (h:ntF s gi rs o most 1=some (q,u)):roE s gi rs most o=(u,q)::roE s gi rs most q:=by
 obtain ⟨_,q2,q3⟩:=ntF_sub hv h4 hm h;unfold roE;rw [show roF s gi rs most (sumTo o o.length+1) o=(u,q)::roF s gi rs most (sumTo o o.length) q from by simp only [roF,h]];rw [roF_fuel hv h4 (sumTo o o.length) (sumTo q q.length+1) q q2 (by omega) (by omega)]
theorem roE_len {o:List Int} (hv:pvB s gi rs=true) (h4:most<=4) (hm:mvd o s=true):(roE s gi rs most o).length<=480:=Nat.le_trans (roF_len hv h4 _ _ hm) (sum_480 hm)
theorem naE_ro {o:List Int} {r:Nat}:naE s gi rs most o r=(lastO o (roE s gi rs most o),r+(roE s gi rs most o).length):=naI_ro _ _ _
theorem roE_mem {o:List Int} (hv:pvB s gi rs=true) (h4:most<=4) (hm:mvd o s=true):∀ x∈roE s gi rs most o,1<=x.1/\x.1<=most/\mvd x.2 s=true/\Sub x.2 o:=fun x hx=>by
 obtain ⟨a,b,_,c,d⟩:=roF_mem (fun _=>True) hv h4 (fun _ _ _ _ _ _=>trivial) _ _ hm trivial x hx;exact ⟨a,b,c,d⟩
theorem roE_split (hv:pvB s gi rs=true) (h4:most<=4) {L:List (Nat×List Int)}:∀ (pre:List (Nat×List Int)) (o:List Int),mvd o s=true->roE s gi rs most o=pre++L->mvd (lastO o pre) s=true/\roE s gi rs most (lastO o pre)=L/\Sub (lastO o pre) o:=by
 intro pre
 induction pre with
 |nil=>intro o hm h;exact ⟨hm,h,Sub.of_mvd hm⟩
 |cons y pre ih=>
  intro o hm h
  cases e:ntF s gi rs o most 1 with
  |none=>rw [roE_none e] at h;cases h
  |some q=>
   obtain ⟨q1,q2,_⟩:=ntF_sub hv h4 hm (q:=q.1) (u:=q.2) e;rw [roE_some hv h4 hm (q:=q.1) (u:=q.2) e] at h
   injection h with h1 h2
   subst h1;obtain ⟨a,b,c⟩:=ih q.1 q2 h2;exact ⟨a,b,c.trans q1⟩
theorem roE_at (hv:pvB s gi rs=true) (h4:most<=4) {pre tl:List (Nat×List Int)} {o x:List Int} {t:Nat} (hm:mvd o s=true) (h:roE s gi rs most o=pre++(t,x)::tl):mvd (lastO o pre) s=true/\ntF s gi rs (lastO o pre) most 1=some (x,t)/\1<=t/\t<=most/\x=nbL s gi rs (lastO o pre) t/\x≠lastO o pre/\mvd x s=true/\Sub x (lastO o pre)/\roE s gi rs most x=tl:=by
 obtain ⟨a,b,_⟩:=roE_split hv h4 pre o hm h
 cases e:ntF s gi rs (lastO o pre) most 1 with
 |none=>rw [roE_none e] at b;cases b
 |some q=>
  obtain ⟨q1,q2,_⟩:=ntF_sub hv h4 a (q:=q.1) (u:=q.2) e;obtain ⟨h1,h2,h3,h5,_⟩:=ntF_some (q:=q.1) (u:=q.2) e;rw [roE_some hv h4 a (q:=q.1) (u:=q.2) e] at b
  injection b with b1 b2
  injection b1 with b1 b3
  subst b1 b3;exact ⟨a,rfl,h1,by omega,h3,h5,q2,q1,b2⟩
end
end Go.Proofs.YtlnmioijgclndaaGreatDoor
namespace Go.Proofs.YtlnmioijgclndaaGreatDoor
open Go.ChangeShapes Go.WideShapes Go.ChangeAt Go.RowKit Go.Shelf
attribute [local go_sem] Oper.semAt_some
structure RBase (NB MB SB s L Br:Nat) (At:Option Addr) (nt ct Bt:Nat) (rs:List RuleM) (Am:Option Addr) (nm cm Bm:Nat) (ms:List Int) (most:Nat) (X:World):Prop where
 n:X.heap[NB]? =some (.cells #[.int .i64 s,.slice At nt ct] 78)
 m:X.cell? ⟨MB,0,none⟩=some (.slice Am nm cm)
 o:X.cell? ⟨SB,0,none⟩=some (.int .i64 most)
 t:4<=most->TbR X L Bt Br s rs At nt
 tB:Bt<=X.heap.size
 tr:Br<=Bt
 r:Rd X Bm Am nm ms
 rB:Bm<=X.heap.size
 z:Tz X
set_option maxHeartbeats 4000000 in
theorem rounds_seq (NB MB SB s L Br:Nat) (At:Option Addr) (nt ct Bt:Nat) (gi:List Int) (rs:List RuleM) (Am:Option Addr) (nm cm Bm:Nat) (m:List Int) (most:Nat) (hs:s∈[2,3,4]) (hv:pvB s gi rs=true) (hm:mvd m s=true) (h4:most<=4) (hml:m.length=nm):
 SeqT Tryz.prog 118 #[.pointer (some ⟨NB,0,none⟩),.pointer (some ⟨MB,0,none⟩),.pointer (some ⟨SB,0,none⟩)] (RBase NB MB SB s L Br At nt ct Bt rs Am nm cm Bm m most) (roE s gi rs most m):=by
 intro l J Jx W hJb hJs hJx hY h0;have HN:=Lib.hid (fun (pre:List (Nat×List Int)) (X:World) (hJ:J pre X) (A:Option Addr) (c B:Nat) (o:List Int) (hr:Rd X B A nm o) (hB:B<=X.heap.size) (ho:mvd o s=true)=>next_any s L Br At nt ct Bt gi rs A c nm B o most X (hJb _ _ hJ).t (hJb _ _ hJ).tB (hJb _ _ hJ).tr hr hB (hJb _ _ hJ).z hs hv ho h4);have HB:=Lib.hid (fun (pre:List (Nat×List Int)) (X:World) (hJ:J pre X)=>(⟨(hJb _ _ hJ).n,(hJb _ _ hJ).m,(hJb _ _ hJ).o⟩:X.heap[NB]? =some (.cells #[.int .i64 s,.slice At nt ct] 78)/\X.cell? ⟨MB,0,none⟩=some (.slice Am nm cm)/\X.cell? ⟨SB,0,none⟩=some (.int .i64 most)))
 have HN0:=Lib.hid (HN.out [] W h0 Am cm Bm m (hJb _ _ h0).r (hJb _ _ h0).rB hm);have Hi:=Lib.hid nar_info;have HJs:=Lib.hid hJs;have HJx:=Lib.hid hJx;have HY:=Lib.hid hY;have HAt:=Lib.hid (fun (pre tl:List (Nat×List Int)) (x:List Int) (t:Nat) (h:roE s gi rs most m=pre++(t,x)::tl)=>roE_at hv h4 hm h);have HSp:=Lib.hid (fun (o:List Int) (q:List Int×Nat) (ho:mvd o s=true) (hq:ntF s gi rs o most 1=some q)=>roE_some hv h4 ho (q:=q.1) (u:=q.2) hq);have HSu:=Lib.hid (fun (o:List Int) (q:List Int×Nat) (ho:mvd o s=true) (hq:ntF s gi rs o most 1=some q)=>(ntF_sub hv h4 ho (q:=q.1) (u:=q.2) hq))
 have HT1:=Lib.hid (fun (o:List Int) (q:List Int×Nat) (hq:ntF s gi rs o most 1=some q)=>(ntF_some (q:=q.1) (u:=q.2) hq).1);obtain ⟨b0,b1,b2⟩:=HB.out _ _ h0;have Hm:=Lib.hid hm;have H0:=Lib.hid h0;have Hml:=Lib.hid hml;clear hJb hJs hJx hY hv hm h0 hml
 show Calls Tryz.prog 118 #[.func (.yield l) #[] #[],.pointer (some ⟨NB,0,none⟩),.pointer (some ⟨MB,0,none⟩),.pointer (some ⟨SB,0,none⟩)] W _
 refine (callsIn_wide (n:=9)).1 ?_;refine callsIn_of_wp Tryz.func118 rfl trivial ?_ rfl;simp only [Tryz.ntmps118,List.size_toArray,List.length_cons,List.length_nil,Nat.reduceAdd,Nat.reduceSub,Array.replicate_succ,Array.replicate_zero,List.push_toArray,List.append_toArray,List.nil_append,List.cons_append]
 let St:List Int->Value->Value->World->Prop:=fun o lf te wr=>match ntF s gi rs o most 1 with
  |none=>lf=.slice none 0 0/\te=.int .i64 0
  |some q=>∃ b c,lf=.slice (some ⟨b,0,none⟩) nm c/\te=.int .i64 (q.2:Nat)/\W.heap.size<=b/\Ow wr W.heap.size (some ⟨b,0,none⟩) nm c q.1
 have HSt:Hid (∀ (o:List Int) (X wr:World) (e:Ending),W.heap.size<=X.heap.size->NextPost X nm (ntF s gi rs o most 1) e wr->∃ lf te,e=.returned (.tuple #[lf,te])/\St o lf te wr/\Below X.heap.size X wr):=Lib.hid (fun o X wr e hX h=>by
  show ∃ lf te,e=.returned (.tuple #[lf,te])/\(match ntF s gi rs o most 1 with
   |none=>lf=.slice none 0 0/\te=.int .i64 0
   |some q=>∃ b c,lf=.slice (some ⟨b,0,none⟩) nm c/\te=.int .i64 (q.2:Nat)/\W.heap.size<=b/\Ow wr W.heap.size (some ⟨b,0,none⟩) nm c q.1)/\Below X.heap.size X wr
  cases hq:ntF s gi rs o most 1 with
  |none=>rw [hq] at h;exact ⟨_,_,h.1,⟨rfl,rfl⟩,h.2⟩
  |some q=>
   rw [hq] at h;obtain ⟨⟨b,c,rfl,hb,ho⟩,hbl⟩:=h
   exact ⟨_,_,rfl,⟨b,c,rfl,rfl,by omega,ho.mono hX⟩,hbl⟩)
 gi_wp2_with (first
  |(refine wpListIn_load_row rfl 78 _ rfl NB rfl 78 #[.int .i64 s,.slice At nt ct] (0,0) _ b0 Tryz.underlying78 rfl (Hi.out _ _) ?_)
  |((try refine ⟨trivial,?_⟩);gi_at_call 119;refine (callsIn_wide.2 HN0.out).mono ?_;rintro e w1 hp;obtain ⟨lf,te,rfl,hst,hb1⟩:=HSt.out _ _ _ _ (Nat.le_refl _) hp;clear hp))
 clear b0 b1 b2
 gi_loopw [5,6] (fun lf te wr=>∃ pre o,Hid (J pre wr/\roE s gi rs most m=pre++roE s gi rs most o/\mvd o s=true/\W.heap.size<=wr.heap.size)/\St o lf te wr) (fun lf te wr=>if intOf te=0 then 0 else sumAt wr lf nm+1)
 case atStart=>exact ⟨[],m,Lib.hid ⟨HJs.out _ _ _ H0.out hb1,rfl,Hm.out,hb1.size⟩,hst⟩
 case round=>
  clear hst hb1;obtain ⟨pre,o,hh,hst⟩:=hrel
  cases hq:ntF s gi rs o most 1 with
  |none=>
   simp only [St,hq] at hst;obtain ⟨rfl,rfl⟩:=hst;have HD:=Lib.hid (show roE s gi rs most m=pre by rw [hh.out.2.1,roE_none hq,List.append_nil]);clear hq
   gi_wp2
   refine ⟨fun _ h=>(by cases h),?_⟩
   gi_wp2
   go_end0
   exact ⟨⟨_,rfl⟩,.inl (by rw [HD.out];exact hh.out.1)⟩
  |some q=>
   simp only [St,hq] at hst;obtain ⟨b,c,rfl,rfl,hbW,ho⟩:=hst;obtain ⟨q,t⟩:=q;have ht1:=HT1.out o (q,t) hq;have HE:=Lib.hid (HSp.out o (q,t) hh.out.2.2.1 hq);have HU:=Lib.hid (HSu.out o (q,t) hh.out.2.2.1 hq);have HD:=Lib.hid (show ∃ tl,roE s gi rs most m=pre++(t,q)::tl from ⟨_,by rw [hh.out.2.1,HE.out]⟩);obtain ⟨fn,tmps,assign,body,hyy,hR⟩:=HY.out pre t q wr b nm c hh.out.1 HD.out hbW ho;have htn:((t:Int) != 0)=true:=(by simp;omega);have hS0:=Lib.hid (sumAt_ow ho nm (Nat.le_refl _));have htz:¬ (t:Int)=0:=(by omega);clear hq
   gi_wp2
   refine (roundIn_any hR).mono ?_;rintro e Y ⟨hYs,hYb,(⟨rfl,hj⟩|⟨rfl,hx⟩)⟩
   ·have hoY:Ow Y W.heap.size (some ⟨b,0,none⟩) nm c q:=ho.same hYb;have HNq:=Lib.hid (HN.out _ Y hj (some ⟨b,0,none⟩) c Y.heap.size q hoY.rd (Nat.le_refl _) HU.out.2.1);have hWY:=Nat.le_trans hh.out.2.2.2 hYs;have HJ2:=Lib.hid hj;have HR2:=Lib.hid (show roE s gi rs most m=(pre++[(t,q)])++roE s gi rs most q by rw [hh.out.2.1,HE.out,List.append_assoc];rfl);obtain ⟨b0,b1,b2⟩:=HB.out _ _ hj;clear hyy hR hj hYb
    gi_wp2_with (first
     |(refine wpListIn_load_row rfl 78 _ rfl NB rfl 78 #[.int .i64 s,.slice At nt ct] (0,0) _ b0 Tryz.underlying78 rfl (Hi.out _ _) ?_)
     |((try refine ⟨trivial,?_⟩);gi_at_call 119;refine (callsIn_wide.2 HNq.out).mono ?_;rintro e w1 hp;obtain ⟨lf,te,rfl,hst,hb1⟩:=HSt.out _ _ _ _ hWY hp;clear hp))
    have hsz1:=hb1.size;have hqn:=hoY.len
    have hmeas:(if intOf te=0 then 0 else sumAt w1 lf nm+1)<sumTo q nm+1:=by
     cases hq2:ntF s gi rs q most 1 with
     |none=>
      simp only [St,hq2] at hst;obtain ⟨rfl,rfl⟩:=hst
      simp [intOf]
     |some q2=>
      simp only [St,hq2] at hst;obtain ⟨b2,c2,rfl,rfl,_,ho2⟩:=hst;have e1:=sumAt_ow ho2 nm (Nat.le_refl _);have e2:=(HSu.out q q2 HU.out.2.1 hq2).2.2;rw [ho2.len,hqn] at e2;rw [e1]
      split<;>omega
    have Hmeas:=Lib.hid hmeas;clear hmeas
    gi_wp2
    refine ⟨⟨pre++[(t,q)],q,Lib.hid ⟨HJs.out _ _ _ HJ2.out hb1,HR2.out,HU.out.2.1,by omega⟩,hst⟩,?_⟩;have e1:intOf (Value.int IntKind.i64 (t:Nat))=(t:Nat):=rfl;rw [e1,if_neg htz,hS0.out];exact Hmeas.out
   ·gi_wp2
    go_end0
    exact ⟨⟨_,rfl⟩,.inr hx⟩
theorem rounds_any (s:Nat) (At:Option Addr) (nt ct:Nat) (Am:Option Addr) (nm cm:Nat) (most:Nat) (w:World):
 Calls Tryz.prog 66 #[.agg #[.int .i64 s,.slice At nt ct],.slice Am nm cm,.int .i64 most] w fun e w'=>∃ NB MB SB,e=.returned (.func (.func 118) #[] #[.pointer (some ⟨NB,0,none⟩),.pointer (some ⟨MB,0,none⟩),.pointer (some ⟨SB,0,none⟩)])/\w'.heap[NB]? =some (.cells #[.int .i64 s,.slice At nt ct] 78)/\w'.cell? ⟨MB,0,none⟩=some (.slice Am nm cm)/\w'.cell? ⟨SB,0,none⟩=some (.int .i64 most)/\w.heap.size<=NB/\w.heap.size<=MB/\w.heap.size<=SB/\Below w.heap.size w w':=by
 obtain ⟨Wa,hWa⟩:∃ Wa,w.alloc (.cells #[.int .i64 s,.slice At nt ct] 78)=Wa:=⟨_,rfl⟩
 have hba:Below w.heap.size w Wa:=by rw [<- hWa];exact (Below.refl _ _).alloc (Nat.le_refl _) _
 have hsa:Wa.heap.size=w.heap.size+1:=by rw [<- hWa];simp
 have hra:Wa.heap[w.heap.size]? =some (.cells #[.int .i64 s,.slice At nt ct] 78):=by rw [<- hWa];exact heap_alloc_new w _
 obtain ⟨Wb,hWb⟩:∃ Wb,Wa.alloc (.cells #[.slice Am nm cm] 23)=Wb:=⟨_,rfl⟩
 have hbb:Below Wa.heap.size Wa Wb:=by rw [<- hWb];exact (Below.refl _ _).alloc (Nat.le_refl _) _
 have hsb:Wb.heap.size=w.heap.size+1+1:=by rw [<- hWb];simp [hsa]
 have hrb:Wb.heap[w.heap.size+1]? =some (.cells #[.slice Am nm cm] 23):=by rw [<- hWb,<-hsa];exact heap_alloc_new Wa _
 obtain ⟨Wc,hWc⟩:∃ Wc,Wb.alloc (.cells #[.int .i64 most] 3)=Wc:=⟨_,rfl⟩
 have hbc:Below Wb.heap.size Wb Wc:=by rw [<- hWc];exact (Below.refl _ _).alloc (Nat.le_refl _) _
 have hrc:Wc.heap[w.heap.size+1+1]? =some (.cells #[.int .i64 most] 3):=by rw [<- hWc,<-hsb];exact heap_alloc_new Wb _
 have HA:=Lib.hid ((hbc.block w.heap.size (by omega)).trans ((hbb.block w.heap.size (by omega)).trans hra));have HB:=Lib.hid (cell_of_row _ _ 0 _ _ (0,0) ((hbc.block (w.heap.size+1) (by omega)).trans hrb));have HC:=Lib.hid (cell_of_row _ _ 0 _ _ (0,0) hrc);have HD:=Lib.hid ((hba.trans (hbb.mono (by omega))).trans (hbc.mono (by omega)));clear hba hra hbb hrb hbc hrc
 go_enter Tryz.func66,Tryz.ntmps66
 go_wp2
 go_ret
 exact ⟨w.heap.size,w.heap.size+1,w.heap.size+1+1,rfl,HA.out,HB.out,HC.out,by omega,by omega,by omega,HD.out⟩
attribute [local go_sem] Oper.semAt_some
theorem Ow.same_own8 {w w':World} {lo n c:Nat} {A:Option Addr} {xs:List Int} (h:Ow w lo A n c xs) (hn:0<n) (hs:∀ g,(Value.slice A n c).ownBlock=some g->w'.heap[g]? =w.heap[g]?):Ow w' lo A n c xs:=by
 obtain ⟨g,rfl,_,_⟩:=h.form hn;exact h.same (hs g rfl)
theorem none_of_deferred8 {W:World} {D i:Nat} {o:Option (List Deferred)} (h:W.heap[D]? =some (.deferred o)):W.cell? ⟨D,i,none⟩=none:=by
 unfold World.cell?
 simp [h]
structure Two (X Y:World) (N1 N2:Nat) (o1 o2:Obj):Prop where
 os:Y.os=X.os
 tape:Y.tape=X.tape
 output:Y.output=X.output
 size:Y.heap.size=X.heap.size
 b1:Y.heap[N1]? =some o1
 b2:Y.heap[N2]? =some o2
 other:∀ k,k≠N1->k≠N2->Y.heap[k]? =X.heap[k]?
theorem Two.mk12 {X:World} {N1 N2:Nat} {u1 u2 v1 v2:Value} {t1 t2:TypeId} (h1:X.heap[N1]? =some (.cells #[u1] t1)) (h2:X.heap[N2]? =some (.cells #[u2] t2)) (hne:N1≠N2):Two X ((X.setCell ⟨N1,0,none⟩ v1).setCell ⟨N2,0,none⟩ v2).drew N1 N2 (.cells #[v1] t1) (.cells #[v2] t2):=
 ⟨rfl,rfl,rfl,by show ((X.setCell ⟨N1,0,none⟩ v1).setCell ⟨N2,0,none⟩ v2).heap.size=_;simp,(heap_setCell_other _ ⟨N2,0,none⟩ N1 v2 (fun e=>hne e)).trans (heap_setCell_same X N1 0 _ _ v1 h1),heap_setCell_same _ N2 0 _ _ v2 ((heap_setCell_other X ⟨N1,0,none⟩ N2 v1 (fun e=>hne e.symm)).trans h2),fun k k1 k2=>(heap_setCell_other _ ⟨N2,0,none⟩ k v2 (fun e=>k2 e)).trans (heap_setCell_other X ⟨N1,0,none⟩ k v1 (fun e=>k1 e))⟩
theorem Two.mk21 {X:World} {N1 N2:Nat} {u1 u2 v1 v2:Value} {t1 t2:TypeId} (h1:X.heap[N1]? =some (.cells #[u1] t1)) (h2:X.heap[N2]? =some (.cells #[u2] t2)) (hne:N1≠N2):Two X ((X.setCell ⟨N2,0,none⟩ v2).setCell ⟨N1,0,none⟩ v1).drew N1 N2 (.cells #[v1] t1) (.cells #[v2] t2):=
 have h:=Two.mk12 (v1:=v2) (v2:=v1) h2 h1 hne.symm
 ⟨h.os,h.tape,h.output,h.size,h.b2,h.b1,fun k k1 k2=>h.other k k2 k1⟩
theorem Two.below {X Y:World} {N1 N2 B:Nat} {o1 o2:Obj} (h:Two X Y N1 N2 o1 o2) (h1:B<=N1) (h2:B<=N2):Below B X Y:=⟨h.os,h.tape,h.output,Nat.le_of_eq h.size.symm,fun k hk=>h.other k (by omega) (by omega)⟩
theorem RBase.below {NB MB SB s L Br:Nat} {At:Option Addr} {nt ct Bt:Nat} {rs:List RuleM} {Am:Option Addr} {nm cm Bm:Nat} {ms:List Int} {most D:Nat} {X Y:World} (h:RBase NB MB SB s L Br At nt ct Bt rs Am nm cm Bm ms most X) (hb:Below D X Y) (hN:NB<D) (hM:MB<D) (hS:SB<D) (hBt:Bt<=D) (hBm:Bm<=D) (hz:0<D):RBase NB MB SB s L Br At nt ct Bt rs Am nm cm Bm ms most Y:=
 ⟨(hb.block _ hN).trans h.n,(hb.cell (p:=⟨MB,0,none⟩) hM).trans h.m,(hb.cell (p:=⟨SB,0,none⟩) hS).trans h.o,fun e=>(h.t e).below (hb.mono hBt) h.tr,Nat.le_trans h.tB hb.size,h.tr,h.r.below (hb.mono hBm),Nat.le_trans h.rB hb.size,h.z.below hz hb⟩
theorem RBase.keep {NB MB SB s L Br:Nat} {At:Option Addr} {nt ct Bt:Nat} {rs:List RuleM} {Am:Option Addr} {nm cm Bm:Nat} {ms:List Int} {most L0:Nat} {X Y:World} (h:RBase NB MB SB s L Br At nt ct Bt rs Am nm cm Bm ms most X) (hk:∀ k,L<=k->k<X.heap.size->Y.heap[k]? =X.heap[k]?) (hb:Below L0 X Y) (h0:Br<=L0) (hBm:Bm<=L0) (hz:0<L0) (hN:L<=NB) (hM:L<=MB) (hS:L<=SB):RBase NB MB SB s L Br At nt ct Bt rs Am nm cm Bm ms most Y:=
 ⟨(hk NB hN (Array.getElem?_eq_some_iff.1 h.n).1).trans h.n,(World.cell?_of_block (a:=⟨MB,0,none⟩) (hk MB hM (cell_lt h.m))).trans h.m,(World.cell?_of_block (a:=⟨SB,0,none⟩) (hk SB hS (cell_lt h.o))).trans h.o,fun e=>(h.t e).keep (fun k h1 h2=>hk k h1 (Nat.lt_of_lt_of_le h2 h.tB)) (hb.mono h0),Nat.le_trans h.tB hb.size,h.tr,h.r.below (hb.mono hBm),Nat.le_trans h.rB hb.size,h.z.below hz hb⟩
theorem na_bad {s:Int} {gi:List Int} {rs:List RuleM} {m:List Int} {most:Int} (h:nvB s gi rs m most=false):naL s gi rs m most=[]/\naR s gi rs m most= -1:=by
 have:(pvB s gi rs&&mvd m s&&inr most 1 4)=false:=by
  unfold nvB at h;rw [Bool.and_comm,<-Bool.and_assoc];exact h
 unfold naL naR;rw [this];exact ⟨rfl,rfl⟩
theorem na_good {s:Int} {gi:List Int} {rs:List RuleM} {m:List Int} {most:Nat} (h:nvB s gi rs m (most:Nat)=true):naL s gi rs m (most:Nat)=lastO m (roE s gi rs most m)/\naR s gi rs m (most:Nat)=((roE s gi rs most m).length:Nat):=by
 have:(pvB s gi rs&&mvd m s&&inr (most:Nat) 1 4)=true:=by
  unfold nvB at h;rw [Bool.and_comm,<-Bool.and_assoc];exact h
 unfold naL naR;rw [if_pos this,if_pos this,Int.toNat_natCast,naE_ro];exact ⟨rfl,by simp⟩
set_option maxHeartbeats 4000000 in
theorem implNarrowAll (s:Int) (Ag:Option Addr) (n cg Bg:Nat) (gi:List Int) (Ar:Option Addr) (nr cr Br:Nat) (rs:List RuleM) (A:Option Addr) (c nm B:Nat) (m:List Int) (most:Int) (w:World) (hp:PGc w s Ag n cg Bg gi Ar nr cr Br rs) (h:Rd w B A nm m) (hBm:B<=w.heap.size) (hm64:B64 m) (hm:nm<=1099511627776) (hT:Tz w) (hsb: -9223372036854775808<=s/\s<=9223372036854775807):
 Calls Tryz.prog 19 #[.agg #[.int .i64 s,.slice Ag n cg,.slice Ar nr cr],.slice A nm c,.int .i64 most] w fun e w'=>∃ A' n' c',e=.returned (.tuple #[.slice A' n' c',.int .i64 (naR s gi rs m most)])/\Ow w' w.heap.size A' n' c' (naL s gi rs m most)/\Below w.heap.size w w':=by
 have hx0:=pbox_new w s Ag n cg Ar nr cr 26;obtain ⟨Wa,hWa⟩:∃ Wa,w.alloc (.cells #[.int .i64 s,.slice Ag n cg,.slice Ar nr cr] 26)=Wa:=⟨_,rfl⟩;rw [hWa] at hx0
 have hba:Below w.heap.size w Wa:=by rw [<- hWa];exact (Below.refl _ _).alloc (Nat.le_refl _) _
 have hsa:Wa.heap.size=w.heap.size+1:=by rw [<- hWa];simp
 obtain ⟨z0,z1,z2⟩:=id hx0;have HV:=Lib.hid (narrowingValid_any s Ag n cg Bg gi Ar nr cr Br rs A nm c B m most Wa (hp.below hba) (h.below (hba.mono hBm)) (Nat.le_trans hBm hba.size) hm64 hm hsb);have HX:=Lib.hid (fun w' (hb:Below Wa.heap.size Wa w')=>hx0.below (show w.heap.size<Wa.heap.size by omega) hb);have HBa:=Lib.hid hba;refine (callsIn_wide (n:=9)).1 ?_;refine callsIn_of_wp_marks Tryz.func19 rfl trivial ?_ rfl;simp only [Tryz.ntmps19,List.size_toArray,List.length_cons,List.length_nil,Nat.reduceAdd,Nat.reduceSub,Array.replicate_succ,Array.replicate_zero,List.push_toArray,List.append_toArray,List.nil_append,List.cons_append]
 cases hv:nvB s gi rs m most
 ·obtain ⟨e1,e2⟩:=na_bad hv;rw [e1,e2];rw [hv] at HV
  gi_wp2_with ((try refine ⟨trivial,?_⟩);gi_at_call 64;refine (callsIn_wide.2 HV.out).mono ?_;rintro e w1 ⟨rfl,hb1⟩)
  exact ⟨_,results_tmp2 rfl _ _ _,none,0,0,rfl,Ow.nil_ _ _,step HBa.out hb1⟩
 ·obtain ⟨⟨t1,t4⟩,hpv,hmv,S,rfl,hS⟩:=nv_ok hv;obtain ⟨M,rfl⟩:=Int.eq_ofNat_of_zero_le (show 0<=most by omega);obtain ⟨e1,e2⟩:=na_good hv;rw [e1,e2];rw [hv] at HV;obtain ⟨_,hsq,hnm16,_⟩:=mvd_at hmv;rw [h.1] at hsq hnm16
  have hnm0:0<nm:=by
   simp at hS
   rcases hS with rfl|rfl|rfl<;>omega
  have HN:=Lib.hid (fun (w':World) (hb:Below w.heap.size w w')=>narrower_any S Ag n cg Bg gi Ar nr cr Br rs M w' (hp.below hb) hpv hS (by omega));have HM:=Lib.hid (fun (w':World) (hb:Below w.heap.size w w')=>h.below (hb.mono hBm));have HCl:=Lib.hid (fun (w':World) (hb:Below w.heap.size w w')=>clone_any A nm c B m w' (h.below (hb.mono hBm)) (Nat.le_trans hBm hb.size) hnm0 hm);have HTz:=Lib.hid (fun (w':World) (hb:Below w.heap.size w w')=>hT.below hT.lt hb);have Hml:=Lib.hid h.1;have Hpv:=Lib.hid hpv;have Hmv:=Lib.hid hmv;have hp0:=hp.rB;have HTl:=Lib.hid hT.lt;have HLen:=Lib.hid (roE_len (rs:=rs) (gi:=gi) hpv (show M<=4 by omega) hmv);have HMem:=Lib.hid (roE_mem (rs:=rs) (gi:=gi) hpv (show M<=4 by omega) hmv);clear e1 e2 hv hpv hmv hsq h hp hT hx0 hba;have hBr0:=hp0
  gi_wp2_with (first
   |((try refine ⟨trivial,?_⟩);gi_at_call 64;refine (callsIn_wide.2 HV.out).mono ?_;rintro e w1 ⟨rfl,hb1⟩;obtain ⟨c0,c1,c2⟩:=HX.out _ hb1;have h01:=step HBa.out hb1)
   |((try refine ⟨trivial,?_⟩);gi_at_call 61;refine (callsIn_wide.2 (HCl.out _ h01)).mono ?_;rintro e w2 ⟨A1,c1',rfl,ho1,hb2⟩;have h02:=step h01 hb2;have ha4:Below w2.heap.size w2 ((w2.alloc (.cells #[.slice A1 nm c1'] 23)).alloc (.cells #[.int .i64 0] 3)):=(((Below.refl _ _).alloc (Nat.le_refl _) _).alloc (by simp) _);have h04:=step h02 ha4;obtain ⟨d0,d1,d2⟩:=HX.out _ (step (step hb1 hb2) ha4))
   |((try refine ⟨trivial,?_⟩);gi_at_call 65;refine (callsIn_wide.2 (HN.out _ h04)).mono ?_;rintro e w5 ⟨A2,n2,c2',rfl,hN2,hb5⟩)
   |((try refine ⟨trivial,?_⟩);gi_at_call 66;refine (callsIn_wide.2 (rounds_any S A2 n2 c2' A nm c M w5)).mono ?_;rintro e w6 ⟨NB,MB,SB,rfl,hnb,hmb,hsb',hNl,hMl,hSl,hb6⟩))
  obtain ⟨w4,hw4⟩:∃ w4,(w2.alloc (.cells #[.slice A1 nm c1'] 23)).alloc (.cells #[.int .i64 0] 3)=w4:=⟨_,rfl⟩
  have hs4:w4.heap.size=w2.heap.size+2:=by rw [<- hw4];simp
  have hr1:w4.heap[w2.heap.size]? =some (.cells #[.slice A1 nm c1'] 23):=by
   rw [<- hw4];exact (Below.heap_alloc _ _ _ (by simp)).trans (heap_alloc_new w2 _)
  have hr2:w4.heap[w2.heap.size+1]? =some (.cells #[.int .i64 0] 3):=by
   rw [<- hw4];have:=heap_alloc_new (w2.alloc (.cells #[.slice A1 nm c1'] 23)) (.cells #[.int .i64 0] 3);rwa [World.size_alloc] at this
  rw [hw4] at ha4 h04 hN2 hb5;have h45:=hb5.size;have h56:=hb6.size;have h24:=h02.size;have hb46:Below w4.heap.size w4 w6:=step hb5 hb6;have h06:=step h04 hb46;have hr16:=(hb46.block _ (by omega)).trans hr1;have hr26:=(hb46.block _ (by omega)).trans hr2;have ho16:=((ho1.mono h01.size).below ha4).below hb46;have hNBl:=(Array.getElem?_eq_some_iff.1 hnb).1;have hMBl:=cell_lt hmb;have hSBl:=cell_lt hsb';have HM6:=HM.out _ h06;have HT6:=HTz.out _ h06;have hTl:=HT6.lt;have hTz0:=HTl.out
  have hNl8:w4.heap.size<=NB:=by omega
  have hMl8:w4.heap.size<=MB:=by omega
  have hSl8:w4.heap.size<=SB:=by omega
  have hN6:4<=M->TbR w6 w4.heap.size w5.heap.size Br S rs A2 n2:=fun e=>(hN2 e).below hb6 (by omega)
  have hgA:∀ g,(Value.slice A1 nm c1').ownBlock=some g->g<w4.heap.size:=fun g hg=>by have:=ho1.own_hi g hg;omega
  clear d0 d1 d2 c0 c1 c2 z0 z1 z2 HX HV HCl HN hr1 hr2 hw4 hN2
  refine range_rounds2 9 (q:=11) (by rfl) (enters_of Tryz.func118 (by kernel_rfl) rfl) (rounds_seq NB MB SB S w4.heap.size Br A2 n2 c2' w5.heap.size gi rs A nm c B m M hS Hpv.out Hmv.out (by omega) Hml.out)
   (fun pre X=>RBase NB MB SB S w4.heap.size Br A2 n2 c2' w5.heap.size rs A nm c B m M X/\(∃ A' c',X.heap[w2.heap.size]? =some (.cells #[.slice A' nm c'] 23)/\Ow X w.heap.size A' nm c' (lastO m pre)/\∀ g,(Value.slice A' nm c').ownBlock=some g->g≠w6.heap.size/\g≠w6.heap.size+1)/\X.heap[w2.heap.size+1]? =some (.cells #[.int .i64 (pre.length:Nat)] 3)/\Below w.heap.size w X/\w6.heap.size<=X.heap.size)
   (fun cc X=>False)
   (fun pre X h=>h.1)
   (fun pre X Y h hA=>by
     obtain ⟨h1,⟨A',c',h2,h3,h4⟩,h5,h6,h7⟩:=h;have hb:=hA.below h7
     exact ⟨h1.below hb hNBl hMBl hSBl (by omega) (by omega) (by omega),⟨A',c',(hb.block _ (by omega)).trans h2,h3.same_own8 hnm0 (fun g e=>hA.block g (h3.own_hi g e) (h4 g e).1 (h4 g e).2),h4⟩,(hb.block _ (by omega)).trans h5,h6.trans (hb.mono (by omega)),Nat.le_trans h7 hA.size⟩)
   (fun cc X Y h hA=>h)
   ⟨⟨hnb,hmb,hsb',hN6,by omega,by omega,HM6,by omega,HT6⟩,⟨A1,c1',hr16,ho16,fun g hg=>by have:=hgA g hg;omega⟩,hr26,h06,Nat.le_refl _⟩ ?assign ?body ?done ?stop
  case assign=>
   intro l u v W K hK;simp only [List.setIfInBounds_toArray,List.set_cons_zero,List.set_cons_succ] at hK ⊢
   gi_wp2
   exact hK
  case body=>
   rintro l pre t x X b n' c' ⟨hbX,⟨A',cc,hrX,hoX,hgX⟩,hqX,hBX,hDX⟩ ⟨tl,htl⟩ hbb hXs hrd hDo hLo
   have hxl:x.length=nm:=by
    have:=(HMem.out (t,x) (by rw [htl];simp)).2.2.2.1;rw [this,Hml.out]
   obtain rfl:n'=nm:=by rw [<- hrd.len];exact hxl
   have hpl:pre.length<480:=by
    have:=HLen.out;rw [htl,List.length_append,List.length_cons] at this;omega
   have hcr:=cell_of_row _ _ 0 _ _ (0,0) hrX;have hfr:=frozen_of_row _ _ 0 _ _ hrX;have hcq:=cell_of_row _ _ 0 _ _ (0,0) hqX;have hfq:=frozen_of_row _ _ 0 _ _ hqX
   have hwr:IntKind.i64.wrap ((pre.length:Int)+1)=((pre.length+1:Nat):Int):=by
    have:=HLen.out;rw [IntWalk.i64_in _ (by omega)];simp
   have HPost:=Lib.hid (fun (Y:World) (a':Act) (hY:Two X Y w2.heap.size (w2.heap.size+1) (.cells #[.slice (some ⟨b,0,none⟩) n' c'] 23) (.cells #[.int .i64 (IntKind.i64.wrap ((pre.length:Int)+1))] 3))=>show rndPost w6.heap.size b (fun pre X=>RBase NB MB SB S w4.heap.size Br A2 n2 c2' w5.heap.size rs A n' c B m M X/\(∃ A' c',X.heap[w2.heap.size]? =some (.cells #[.slice A' n' c'] 23)/\Ow X w.heap.size A' n' c' (lastO m pre)/\∀ g,(Value.slice A' n' c').ownBlock=some g->g≠w6.heap.size/\g≠w6.heap.size+1)/\X.heap[w2.heap.size+1]? =some (.cells #[.int .i64 (pre.length:Nat)] 3)/\Below w.heap.size w X/\w6.heap.size<=X.heap.size) (fun cc X=>False) (pre++[(t,x)]) X Exit.normal a' Y from by
    refine ⟨⟨Nat.le_of_eq hY.size.symm,fun k hk=>hY.other k (by omega) (by omega)⟩,hbX.keep (fun k k1 _=>hY.other k (by omega) (by omega)) (hY.below (B:=w.heap.size) (by omega) (by omega)) hBr0 hBm hTz0 hNl8 hMl8 hSl8,⟨some ⟨b,0,none⟩,c',hY.b1,?_,fun g hg=>?_⟩,?_,hBX.trans (hY.below (by omega) (by omega)),by rw [hY.size];exact hDX⟩
    ·rw [lastO_push];exact (hrd.mono (by omega)).same (hY.other b (by omega) (by omega))
    ·have e:b=g:=Option.some.inj hg;omega
    ·rw [hY.b2,hwr,List.length_append];rfl)
   simp only [List.setIfInBounds_toArray,List.set_cons_zero,List.set_cons_succ];clear hwr hbX hBX hrd hgX hoX hDo hLo
   gi_wp2
   gi_region
   all_goals
    gi_wp2
    first
     |exact HPost.out _ _ (Two.mk12 hrX hqX (by omega))
     |exact HPost.out _ _ (Two.mk21 hrX hqX (by omega))
  case done=>
   rintro D W hD ⟨hbX,⟨A',cc,hrX,hoX,hgX⟩,hqX,hBX,hDX⟩ hK;have hcr:=cell_of_row _ _ 0 _ _ (0,0) hrX;have hcq:=cell_of_row _ _ 0 _ _ (0,0) hqX
   have hgD:∀ g,(Value.slice A' nm cc).ownBlock=some g->g≠D:=fun g e e2=>by
    subst e2;obtain ⟨g',e3,_,_⟩:=hoX.form hnm0;subst e3;obtain ⟨h1,h2⟩:=hoX.cell hnm0
    injection e with e
    subst e;rw [none_of_deferred8 hK] at h1;cases h1
   have HO:=Lib.hid hoX;have HBX:=Lib.hid hBX;clear hbX hoX hBX
   gi_wp2
   gi_region
   all_goals
    gi_wp2
    have hK2:W.drew.heap[D]? =some (.deferred (some [])):=hK;refine ⟨by simp,.inl ⟨_,_,rfl,run_takeDeferred hK2,?_⟩⟩;refine ⟨_,results_tmp2 rfl _ _ _,?_⟩;have hOd:Ow W.drew w.heap.size A' nm cc (lastO m (roE (S:Int) gi rs M m)):=World.ownsRow.drew HO.out;exact ⟨A',nm,cc,rfl,hOd.same_own8 hnm0 (fun g e=>World.putObj_heap_other (fun e2=>hgD g e e2)),HBX.out.drew.trans (below_put _ (by omega) hK2)⟩
  case stop=>
   rintro D cc W hD h hK;exact h.elim
end Go.Proofs.YtlnmioijgclndaaGreatDoor
namespace Go.Proofs.YtlnmioijgclndaaGreatDoor
open Go.ChangeShapes Go.WideShapes Go.ChangeAt Go.RowKit
theorem implMasksGrid:IMasksGrid:=by
 intro A c n B xs size w h hx64 hT hB hm hsz;have hlen:=Lib.hid h.1;have Hmv:=Lib.hid (fun w (h:Rd w B A n xs) hB=>implMasksValid A c n B xs size w h hx64 hB hm hsz);cases hg:mvd xs size
 ·have HL:=Lib.hid (show mgL xs size=[] by simp [mgL,hg])
  go_enter Tryz.func25,Tryz.ntmps25
  go_wp2_with (go_at_call 67;refine (Hmv.out _ h hB).mono ?_;rintro e w1 ⟨rfl,hb1⟩;rw [hg])
  go_ret
  rw [HL.out];exact ⟨_,_,rfl,Ow.nil_ _ _,hb1⟩
 ·obtain ⟨i0,hi,hz0,hz1,hz2⟩:=info_parts int_info;have HL:=Lib.hid (show mgL xs size=mapTo (mgG xs) n by simp [mgL,hg,hlen.out]);obtain ⟨_,_,h16,hat⟩:=mvd_at hg;rw [hlen.out] at h16 hat;have Hat:=Lib.hid hat;clear hat
  go_enter Tryz.func25,Tryz.ntmps25
  go_wp2_with (first
   |(go_at_call 67;refine (Hmv.out _ h hB).mono ?_;rintro e w1 ⟨rfl,hb1⟩;rw [hg])
   |(refine wpList_make_full _ rfl (.tmp 13) (.tmp 13) 23 rfl w.heap.size 3 i0 (.int .i64 0) 1 Tryz.underlying23 hi hz0 hz1 .i64 .i64 n n n rfl rfl rfl rfl (by rw [hz2];omega) (by simp only [maxLen];omega) hb1.size ?_;intro w2 hown hgr))
  have ho2:=made_part (mapTo (mgG xs) n) hown;have hb2:=step hb1 (made_below hgr (Nat.le_refl _));obtain ⟨M,hM⟩:∃ M,M=w1.heap.size:=⟨_,rfl⟩;rw [<- hM] at ho2;rw [<- hM]
  have hlo:w.heap.size<=M:=by have:=hb1.size;omega
  clear hown hgr hz0 hz1 hz2 hi hM
  go_loopw [17] (fun i wr=>∃ k:Nat,k<=n/\i=.int .i64 k/\Ow wr w.heap.size (some ⟨M,0,none⟩) n n (part (mapTo (mgG xs) n) k n)/\Below w.heap.size w wr) (fun i _=>n-(intOf i).toNat)
  case atStart=>exact ⟨0,Nat.zero_le _,rfl,ho2,hb2⟩
  case round=>
   obtain ⟨k,hk,rfl,ho,hb⟩:=hrel
   by_cases hlt:k<n
   ·obtain ⟨b,off,rfl,hbB,hck⟩:=(h.below (hb.mono hB)).at_ hlt;obtain ⟨x0,x1,x2⟩:=Hat.out k hlt;have hst:=(World.ownsRow.stored ho k (.int .i64 (nth (mapTo (mgG xs) n) k))).1;rw [part_set,mapTo_nth hlt] at hst;have Hst:=Lib.hid hst;clear hst;obtain ⟨m,hv⟩:=Int.eq_ofNat_of_zero_le x0;rw [hv] at hck;have hm2:m%2=0:=(by rw [hv,Int.tmod_eq_emod_of_nonneg (by omega)] at x2;omega)
    have Hg:=Lib.hid (show oneOf (bitsTo m 4)=mgG xs k by
     simp only [mgG,hv,maskVals];rw [if_pos (by simp only [mvOk,inr,Bool.and_eq_true,decide_eq_true_eq,beq_iff_eq];rw [<- hv];exact ⟨⟨x0,x1⟩,x2⟩)]
     rfl)
    have Hone:=Lib.hid (fun w hT=>onlyValue_any m (by omega) hm2 w hT);have hTr:=hT.below hT.lt hb;obtain ⟨hold,hfr⟩:=ho.cell hlt;clear hm2 x0 x1 x2
    go_wp2_with (go_at_call 72;refine (Hone.out _ hTr).mono ?_;rintro e w' ⟨rfl,rfl⟩;rw [Hg.out])
    go_roundw
    case rel=>exact ⟨k+1,by omega,by go_num,Hst.out,hb.setCell (p:=(⟨M,k,none⟩:Addr)) hlo _⟩
    case measure=>simp [intOf];omega
   ·obtain rfl:k=n:=by omega
    have hp:part (mapTo (mgG xs) k) k k=mapTo (mgG xs) k:=part_all' (mapTo_length _ _);rw [hp] at ho
    go_wp2
    go_ret
    rw [HL.out];exact retSl_mk ho hb
def sbB (s:Int) (n:Nat) (gi:List Int) (rs:List RuleM) (t:Int):Bool:=(let g:=mgL (naL s gi rs (startL s gi rs n) t) s;!memTo g 0 g.length)
def gpF (s:Int) (n:Nat) (gi:List Int) (rs:List RuleM):Nat->Nat->Int
 |0,_=>5
 |d+1,t=>if sbB s n gi rs (t:Nat)=true then (t:Nat) else gpF s n gi rs d (t+1)
def gpI (s:Int) (n:Nat) (gi:List Int) (rs:List RuleM):Int:=if pvB s gi rs=true then (if (allS s 2 n gi rs).length=1 then gpF s n gi rs 4 1 else 0) else -1
theorem memTo_at9 {xs:List Int} {v:Int}:∀ {n:Nat},memTo xs v n=true->∃ k,k<n/\nth xs k=v
 |0,h=>by simp [memTo] at h
 |n+1,h=>by
  simp only [memTo,Bool.or_eq_true,beq_iff_eq] at h
  rcases h with h|h
  ·obtain ⟨k,hk,e⟩:=memTo_at9 h;exact ⟨k,by omega,e⟩
  ·exact ⟨n,by omega,h⟩
set_option maxHeartbeats 2000000 in
theorem solvedBy_any (t:Nat) (Ag:Option Addr) (n cg Bg:Nat) (gi:List Int) (Ar:Option Addr) (nr cr Br:Nat) (rs:List RuleM) (M:Nat) (w:World) (hp:PGc w (t:Nat) Ag n cg Bg gi Ar nr cr Br rs) (hT:Tz w) (hv:pvB (t:Nat) gi rs=true) (hM:1<=M/\M<=4):
 Calls Tryz.prog 54 #[.agg #[.int .i64 (t:Nat),.slice Ag n cg,.slice Ar nr cr],.int .i64 (M:Nat)] w fun e w'=>e=.returned (.bool (sbB (t:Nat) n gi rs (M:Nat)))/\Below w.heap.size w w':=by
 have hx0:=pbox_new w (t:Nat) Ag n cg Ar nr cr 26;obtain ⟨W,hW⟩:∃ W,w.alloc (.cells #[.int .i64 (t:Nat),.slice Ag n cg,.slice Ar nr cr] 26)=W:=⟨_,rfl⟩
 have hb0:Below w.heap.size w W:=by rw [<- hW];exact (Below.refl _ _).alloc (Nat.le_refl _) _
 have hs0:w.heap.size<W.heap.size:=by rw [<- hW];simp
 rw [hW] at hx0;obtain ⟨hXl,hXv⟩:=start_mvdM (rs:=rs) hp.g.1 hv
 have hn16:n<=16:=by
  have:=(mvd_at hXv).2.2.1;omega
 have hts: -9223372036854775808<=((t:Nat):Int)/\((t:Nat):Int)<=9223372036854775807:=by
  have:=(mvd_at hXv).1;omega
 obtain ⟨X,hX⟩:∃ X,X=startL (t:Nat) gi rs n:=⟨_,rfl⟩;rw [<- hX] at hXl hXv;obtain ⟨Y,hY⟩:∃ Y,Y=naL (t:Nat) gi rs X (M:Nat):=⟨_,rfl⟩
 have hYv:mvd Y (t:Nat)=true:=by
  rw [hY];unfold naL;rw [if_pos (by simp [hv,hXv,inr];omega),Int.toNat_natCast];exact (na_wi hv hM.2 hXv).2.1
 have hYl:Y.length<=16:=(mvd_at hYv).2.2.1;have HS:=Lib.hid (show sbB (t:Nat) n gi rs (M:Nat)= !memTo (mgL Y (t:Nat)) 0 (mgL Y (t:Nat)).length by rw [hY,hX];rfl)
 have HI0:=Lib.hid (fun w' (hb:Below W.heap.size W w')=>by
  have:=implStartMasks _ _ _ _ _ _ _ _ _ _ _ _ (hp.below (step hb0 hb));rw [<- hX] at this
  exact this)
 have hdr:Below W.heap.size W W.drew:=(Below.refl _ _).drew;have hX64:=b64_mvd hXv;have hY64:=b64_mvd hYv;have HTz:=Lib.hid (fun w' (hb:Below W.heap.size W w')=>hT.below hT.lt (step hb0 hb))
 have HI:=Lib.hid (fun (A9:Option Addr) (c9 n9 B9:Nat) (w':World) (hb:Below W.heap.size W w') (hr:Rd w' B9 A9 n9 X) (hB:B9<=w'.heap.size) (h9:n9<=1099511627776)=>by
  have:=implNarrowAll _ _ _ _ _ _ _ _ _ _ _ A9 c9 n9 B9 X (M:Nat) w' (hp.below (step hb0 hb)) hr hB hX64 h9 (HTz.out _ hb) hts;rw [<- hY] at this
  exact this)
 have HMG:=Lib.hid (fun (A9:Option Addr) (c9 n9 B9:Nat) (w':World) (hb:Below W.heap.size W w') (hr:Rd w' B9 A9 n9 Y) (hB:B9<=w'.heap.size) (h9:n9<=1099511627776)=>implMasksGrid A9 c9 n9 B9 Y (t:Nat) w' hr hY64 (HTz.out _ hb) hB h9 hts);have HX:=Lib.hid (fun w' (hb:Below W.heap.size W w')=>hx0.below hs0 hb);have HB:=Lib.hid (fun w' (hb:Below W.heap.size W w')=>step hb0 hb);have HW:=Lib.hid hW
 have hgl:(mgL Y (t:Nat)).length<=16:=by simp [mgL,hYv,mapTo_length];omega
 have hX16:X.length<=1099511627776:=by omega
 have hY16:Y.length<=1099511627776:=by omega
 obtain ⟨z0,z1,z2⟩:=id hx0;clear hW hx0 hb0 hY hX hYv hXv hXl hYl hts hv hM hp hs0 hX64 hY64
 go_enter Tryz.func54,Tryz.ntmps54
 go_wp2_with fail
 rw [HW.out]
 go_region_with (first
  |(go_at_call 18;refine (HI0.out _ hdr).mono ?_;rintro e w2 ⟨Ax,cx,rfl,hox,hb2⟩;have h02:=step hdr hb2;obtain ⟨y0,y1,y2⟩:=HX.out _ h02)
  |(go_at_call 19;refine (HI.out _ _ _ _ _ h02 hox.rd (Nat.le_refl _) hX16).mono ?_;rintro e w3 ⟨A3,n3,c3,rfl,ho3,hb3⟩))
 all_goals
  obtain rfl:=ho3.len;have h03:=step h02 hb3;obtain ⟨x0,x1,x2⟩:=HX.out _ h03
  go_wp2_with (first
   |(go_at_call 25;refine (HMG.out _ _ _ _ _ h03 ho3.rd (Nat.le_refl _) hY16).mono ?_;rintro e w4 ⟨A4,c4,rfl,ho4,hb4⟩)
   |(go_at_call 104;refine (contains_any _ _ _ _ _ 0 _ ho4.rd (by omega)).mono ?_;rintro e w5 ⟨rfl,rfl⟩))
  go_ret
  exact ⟨by rw [HS.out];rfl,HB.out _ (step h03 hb4)⟩
set_option maxHeartbeats 2000000 in
theorem implGradePuzzle (s:Int) (Ag:Option Addr) (n cg Bg:Nat) (gi:List Int) (Ar:Option Addr) (nr cr Br:Nat) (rs:List RuleM) (w:World) (hp:PGc w s Ag n cg Bg gi Ar nr cr Br rs) (hT:Tz w):
 Calls Tryz.prog 14 #[.agg #[.int .i64 s,.slice Ag n cg,.slice Ar nr cr]] w fun e w'=>e=.returned (.int .i64 (gpI s n gi rs))/\Below w.heap.size w w':=by
 have hx0:=pbox_new w s Ag n cg Ar nr cr 26;obtain ⟨W,hW⟩:∃ W,w.alloc (.cells #[.int .i64 s,.slice Ag n cg,.slice Ar nr cr] 26)=W:=⟨_,rfl⟩
 have hb0:Below w.heap.size w W:=by rw [<- hW];exact (Below.refl _ _).alloc (Nat.le_refl _) _
 have hs0:w.heap.size<W.heap.size:=by rw [<- hW];simp
 rw [hW] at hx0;have HV:=Lib.hid (valid_any s Ag n cg Bg gi Ar nr cr Br rs W (hp.below hb0));have HX:=Lib.hid (fun w' (hb:Below W.heap.size W w')=>hx0.below hs0 hb);have HB:=Lib.hid (fun w' (hb:Below W.heap.size W w')=>step hb0 hb);have HW:=Lib.hid hW;obtain ⟨z0,z1,z2⟩:=id hx0;cases hv:pvB s gi rs
 ·have HL:=Lib.hid (show gpI s n gi rs= -1 by simp [gpI,hv])
  go_enter Tryz.func14,Tryz.ntmps14
  clear hW
  go_wp2_with fail
  rw [HW.out]
  go_wp2_with (go_at_call 52;refine HV.out.mono ?_;rintro e w1 ⟨rfl,hb1⟩;rw [hv])
  go_ret
  exact ⟨by rw [HL.out];rfl,HB.out _ hb1⟩
 ·obtain ⟨t,rfl,hs,_,_,_⟩:=pv_grid hv hp.g.1;have HCS:=Lib.hid (fun w' (hb:Below W.heap.size W w')=>hasOne_any _ _ _ _ _ _ _ _ _ _ _ w' (hp.below (step hb0 hb)) hv (hT.below hT.lt (step hb0 hb)));obtain ⟨q,hq⟩:∃ q,q=(allS t 2 n gi rs).length:=⟨_,rfl⟩;have HSB:=Lib.hid (fun (M:Nat) (h1:1<=M) (h4:M<=4) w' (hb:Below W.heap.size W w')=>solvedBy_any _ _ _ _ _ _ _ _ _ _ _ M w' (hp.below (step hb0 hb)) (hT.below hT.lt (step hb0 hb)) hv ⟨h1,h4⟩)
  by_cases h1:q=1
  ·have HL:=Lib.hid (show gpI t n gi rs=gpF t n gi rs 4 1 by simp [gpI,hv,<-hq,h1]);have HC:=Lib.hid (show oneB t n gi rs=true by unfold oneB;rw [<- hq,h1];rfl);subst h1;clear hW hx0 hb0 hs0 hp hq hs
   go_enter Tryz.func14,Tryz.ntmps14
   go_wp2_with fail
   rw [HW.out]
   go_wp2_with (first
    |(go_at_call 52;refine HV.out.mono ?_;rintro e w1 ⟨rfl,hb1⟩;rw [hv];obtain ⟨y0,y1,y2⟩:=HX.out _ hb1)
    |(go_at_call 53;refine (HCS.out _ hb1).mono ?_;rintro e w2 ⟨rfl,hb2⟩;rw [HC.out];have h02:=step hb1 hb2))
   go_loopw [3] (fun i wr=>∃ M:Nat,1<=M/\M<=5/\i=.int .i64 M/\gpF t n gi rs 4 1=gpF t n gi rs (5-M) M/\Below W.heap.size W wr) (fun i _=>5-(intOf i).toNat)
   case atStart=>exact ⟨1,by omega,by omega,rfl,rfl,h02⟩
   case round=>
    obtain ⟨M,m1,m5,rfl,hg,hb⟩:=hrel;obtain ⟨x0,x1,x2⟩:=HX.out _ hb
    by_cases hlt:M<=4
    ·have hltI:(M:Int)<=4:=(by omega)
     have HG:=Lib.hid (show gpF t n gi rs 4 1=if sbB t n gi rs (M:Nat)=true then ((M:Nat):Int) else gpF t n gi rs (4-M) (M+1) by
      rw [hg,show 5-M=(4-M)+1 by omega];rfl)
     clear hg;cases hsb:sbB t n gi rs (M:Nat)
     ·go_wp2_with (go_at_call 54;refine (HSB.out M m1 hlt _ hb).mono ?_;rintro e w3 ⟨rfl,hb3⟩;rw [hsb])
      go_roundw
      case rel=>exact ⟨M+1,by omega,by omega,by go_num,by rw [HG.out,hsb,if_neg (by simp),show 5-(M+1)=4-M by omega],step hb hb3⟩
      case measure=>simp [intOf];omega
     ·go_wp2_with (go_at_call 54;refine (HSB.out M m1 hlt _ hb).mono ?_;rintro e w3 ⟨rfl,hb3⟩;rw [hsb])
      go_ret
      exact ⟨by rw [HL.out,HG.out,hsb,if_pos rfl];rfl,HB.out _ (step hb hb3)⟩
    ·obtain rfl:M=5:=by omega
     have HG:=Lib.hid (show gpF t n gi rs 4 1=5 by rw [hg];rfl);clear hg
     go_wp2
     go_ret
     exact ⟨by rw [HL.out,HG.out];rfl,HB.out _ hb⟩
  ·have HL:=Lib.hid (show gpI t n gi rs=0 by
    unfold gpI;rw [if_pos hv,<-hq,if_neg h1])
   have HC:=Lib.hid (show oneB t n gi rs=false by unfold oneB;rw [<- hq,beq_eq_false_iff_ne];exact h1);clear hW hx0 hb0 hs0 hp hq hs
   go_enter Tryz.func14,Tryz.ntmps14
   go_wp2_with fail
   rw [HW.out]
   go_wp2_with (first
    |(go_at_call 52;refine HV.out.mono ?_;rintro e w1 ⟨rfl,hb1⟩;rw [hv];obtain ⟨y0,y1,y2⟩:=HX.out _ hb1)
    |(go_at_call 53;refine (HCS.out _ hb1).mono ?_;rintro e w2 ⟨rfl,hb2⟩;rw [HC.out];have h02:=step hb1 hb2))
   go_ret
   exact ⟨by rw [HL.out];rfl,HB.out _ h02⟩
def oneQ (M y:Nat):Bool:= !(M.testBit y&&Nat.ble 1 y&&Nat.ble y 4)||(oneOf (bitsTo M 4)==0)||(oneOf (bitsTo M 4)==(y:Int))
theorem oneQ_all:∀ M,M<32->∀ y,y<5->oneQ M y=true:=by decide +kernel
def subQ (A B y:Nat):Bool:= !(A.testBit y&&Nat.ble 1 y&&(bits .andNot .i64 (A:Nat) (B:Nat)==0)&&(oneOf (bitsTo B 4)==(y:Int)))||(oneOf (bitsTo A 4)==(y:Int))
theorem subQ_all:∀ A,A<32->∀ B,B<32->∀ y,y<5->subQ A B y=true:=by decide +kernel
theorem mh_at9 {m g:List Int} {s:Int} (h:mhB m s g=true) (hg0:∀ k,k<g.length->nth g k≠0) {k:Nat} (hk:k<g.length):∃ y:Nat,nth g k=y/\1<=y/\y<5/\(nth m k).toNat.testBit y=true:=by
 simp only [mhB,Bool.and_eq_true,List.all_eq_true,List.mem_range] at h;obtain ⟨p0,p1⟩:=gv_nth h.1.2 hk;have:=gv_size h.1.2;have:=hg0 k hk;obtain ⟨y,hy⟩:=Int.eq_ofNat_of_zero_le p0;have hb:=h.2 k hk;unfold inMask at hb;rw [hy,Int.toNat_natCast] at hb;exact ⟨y,hy,by omega,by omega,hb⟩
theorem mg_one {m g:List Int} {s:Int} (h:mhB m s g=true) (hg0:∀ k,k<g.length->nth g k≠0) {k:Nat} (hk:k<g.length):mgG m k=0\/mgG m k=nth g k:=by
 have hm:mvd m s=true:=by simp only [mhB,Bool.and_eq_true] at h;exact h.1.1
 obtain ⟨y,hy,y1,y5,hb⟩:=mh_at9 h hg0 hk;obtain ⟨M,hM,hM32,eM⟩:=mv_bits' hm k;rw [hM,Int.toNat_natCast] at hb;have q:=oneQ_all M hM32 y y5;unfold mgG;rw [eM,hy];simp only [oneQ,hb,Nat.ble_eq_true_of_le y1,Nat.ble_eq_true_of_le (show y<=4 by omega),Bool.and_self,Bool.not_true,Bool.false_or,Bool.or_eq_true,beq_iff_eq] at q;exact q
theorem mg_len {m g:List Int} {s:Int} (h:mhB m s g=true):m.length=g.length:=by
 simp only [mhB,Bool.and_eq_true] at h;have h1:=(mvd_at h.1.1).2.1;have h2:=gv_len h.1.2;omega
theorem mg_is {m g:List Int} {s:Int} (h:mhB m s g=true) (hg0:∀ k,k<g.length->nth g k≠0):same (mgL m s) g= !memTo (mgL m s) 0 (mgL m s).length:=by
 have hm:mvd m s=true:=by simp only [mhB,Bool.and_eq_true] at h;exact h.1.1
 have hl:=mg_len h
 have e:mgL m s=mapTo (mgG m) m.length:=by simp [mgL,hm]
 have hll:(mgL m s).length=g.length:=by rw [e,mapTo_length,hl]
 cases hz:memTo (mgL m s) 0 (mgL m s).length
 ·have:mgL m s=g:=ext_nth hll (fun k hk=>by
   have hk2:k<m.length:=(by omega);have hn:nth (mgL m s) k=mgG m k:=(by rw [e];exact mapTo_nth hk2)
   rcases mg_one h hg0 (show k<g.length by omega) with h0|h0
   ·have:=memTo_hit (xs:=mgL m s) (v:=0) hk (by rw [hn,h0]);rw [hz] at this;cases this
   ·rw [hn,h0])
  rw [this];simp [same]
 ·obtain ⟨k,hk,h0⟩:=memTo_at9 hz
  have hne:mgL m s≠g:=fun e2=>hg0 k (by omega) (by rw [<- e2];exact h0)
  cases hs:same (mgL m s) g with
  |false=>rfl
  |true=>exact absurd (by simpa [same] using hs) hne
theorem mg_more {a b g:List Int} {s:Int} (ha:mhB a s g=true) (hb:mhB b s g=true) (hw:Wi a b) (hg0:∀ k,k<g.length->nth g k≠0) (h:memTo (mgL b s) 0 (mgL b s).length=false):memTo (mgL a s) 0 (mgL a s).length=false:=by
 have hma:mvd a s=true:=by simp only [mhB,Bool.and_eq_true] at ha;exact ha.1.1
 have hmb:mvd b s=true:=by simp only [mhB,Bool.and_eq_true] at hb;exact hb.1.1
 have la:=mg_len ha;have lb:=mg_len hb
 have ea:mgL a s=mapTo (mgG a) a.length:=by simp [mgL,hma]
 have eb:mgL b s=mapTo (mgG b) b.length:=by simp [mgL,hmb]
 cases hz:memTo (mgL a s) 0 (mgL a s).length with
 |false=>rfl
 |true=>
  obtain ⟨k,hk,h0⟩:=memTo_at9 hz
  have hka:k<a.length:=by rw [ea,mapTo_length] at hk;exact hk
  have hkb:k<b.length:=by omega
  rw [ea,mapTo_nth hka] at h0;obtain ⟨y,hy,y1,y5,hbit⟩:=mh_at9 ha hg0 (show k<g.length by omega);obtain ⟨M,hM,hM32,eM⟩:=mv_bits' hma k;obtain ⟨K,hK,hK32,eK⟩:=mv_bits' hmb k;have hwk:=hw k hkb;rw [hM,Int.toNat_natCast] at hbit;rw [hM,hK] at hwk
  have hbk:mgG b k=(y:Int):=by
   rcases mg_one hb hg0 (show k<g.length by omega) with h1|h1
   ·have:=memTo_hit (xs:=mgL b s) (v:=0) (n:=(mgL b s).length) (k:=k) (by rw [eb,mapTo_length];exact hkb) (by rw [eb,mapTo_nth hkb];exact h1);rw [h] at this;cases this
   ·rw [h1,hy]
  unfold mgG at hbk h0;rw [eK] at hbk;rw [eM] at h0;have q:=subQ_all M hM32 K hK32 y y5;simp only [subQ,hbit,Nat.ble_eq_true_of_le y1,hwk,hbk,beq_self_eq_true,Bool.and_self,Bool.not_true,Bool.false_or,beq_iff_eq] at q;rw [q] at h0;omega
end Go.Proofs.YtlnmioijgclndaaGreatDoor
