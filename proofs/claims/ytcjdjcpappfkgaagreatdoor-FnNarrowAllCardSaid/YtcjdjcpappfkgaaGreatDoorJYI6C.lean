import Derived.Test.YtcjdjcpappfkgaaGreatDoorJYSl
set_option maxRecDepth 8000
namespace Go.Proofs.YtcjdjcpappfkgaaGreatDoor
open Go.ChangeShapes Go.WideShapes Go.ChangeAt Go.RowKit Go.Shelf
attribute [local go_sem] Oper.semAt_some
theorem RdRc.more {w:World} {B B':Nat} {A:Option Addr} {n:Nat} {rs:List RuleM} (h:RdRc w B A n rs) (hB:B<=B'):RdRc w B' A n rs:=by
 refine ⟨h.1,fun hn=>?_⟩;obtain ⟨b,off,e,hb,hc⟩:=h.2 hn
 exact ⟨b,off,e,Nat.lt_of_lt_of_le hb hB,fun i hi=>by
  obtain ⟨A',c',e0,e1,e2,e3,e4⟩:=hc i hi
  exact ⟨A',c',e0,e1,e2,e3.more hB,e4⟩⟩
theorem allS_cv {s:Nat} {gi:List Int} {rs:List RuleM} {most n:Nat} (hl:gi.length=n) (hv:pvB s gi rs=true) (h0:0<most) (hn:n=s*s):allS s most n gi rs=(cv s gi rs (s*s) []).take most:=by
 rw [allS_is hl hv h0,<-cv_is hv,hl,hn]
theorem sf_cons {s:Nat} {gi:List Int} {rs:List RuleM} {n:Nat} {y:List Int} {zs:List (List Int)} (hl:gi.length=n) (hv:pvB s gi rs=true) (hn:n=s*s) (h:cv s gi rs (s*s) []=y::zs):sfL s n gi rs=y/\sfB s n gi rs=true:=by
 unfold sfL sfB;rw [allS_cv hl hv (by omega) hn,h];exact ⟨rfl,rfl⟩
theorem sf_nil {s:Nat} {gi:List Int} {rs:List RuleM} {n:Nat} (hl:gi.length=n) (hv:pvB s gi rs=true) (hn:n=s*s) (h:cv s gi rs (s*s) []=[]):sfL s n gi rs=[]/\sfB s n gi rs=false:=by
 unfold sfL sfB;rw [allS_cv hl hv (by omega) hn,h];exact ⟨rfl,rfl⟩
theorem allS_none {s:Int} {gi:List Int} {rs:List RuleM} {most n:Nat} (hv:pvB s gi rs=false):allS s most n gi rs=[]:=by
 unfold allS fpB;rw [hv];rfl
theorem cv_len {s:Nat} {gi:List Int} {rs:List RuleM} {n:Nat} {y:List Int} (hl:gi.length=n) (hv:pvB s gi rs=true) (hn:n=s*s) (hs:s∈[2,3,4]) (h:y∈cv s gi rs (s*s) []):y.length=n:=by
 have e:cv s gi rs (s*s) []=solL s gi rs:=by rw [<- hn,<-hl];exact cv_is hv
 rw [e,solL_is hv] at h;have h1:=(List.mem_filter.1 h).2;unfold psB fpB at h1;simp only [Bool.and_eq_true] at h1;have:=gv_len h1.1.1.2
 simp at hs
 rcases hs with rfl|rfl|rfl<;>omega
theorem below_put_at {N l:Nat} {X:World} (o':Obj) (hN:N<=l) (hl:l<X.heap.size):Below N X (X.putObj l o'):=
 below_put o' hN (Array.getElem?_eq_getElem hl)
theorem Ow.same_own {w w':World} {lo n c:Nat} {A:Option Addr} {xs:List Int} (h:Ow w lo A n c xs) (hn:0<n) (hs:∀ g,(Value.slice A n c).ownBlock=some g->w'.heap[g]? =w.heap[g]?):Ow w' lo A n c xs:=by
 obtain ⟨g,rfl,_,_⟩:=h.form hn;exact h.same (hs g rfl)
theorem cell_none_of_deferred {W:World} {D i:Nat} {o:Option (List Deferred)} (h:W.heap[D]? =some (.deferred o)):W.cell? ⟨D,i,none⟩=none:=by
 unfold World.cell?
 simp [h]
theorem sf_results (tm:Array Value) (X:World) (g h:Nat) (A:Option Addr) (m c:Nat) (b:Bool) (h2:tm[2]?.getD undef=.pointer (some ⟨g,0,none⟩)) (h3:tm[3]?.getD undef=.pointer (some ⟨h,0,none⟩)) (c1:X.cell? ⟨g,0,none⟩=some (.slice A m c)) (c2:X.cell? ⟨h,0,none⟩=some (.bool b)):(results Tryz.f18 tm).run Tryz.prog X=.ok (.tuple #[.slice A m c,.bool b]) X:=by
 simp [results,Tryz.f18,go_sem,h2,h3,c1,c2]
set_option maxHeartbeats 1000000 in
theorem implSolveFirst (s:Int) (Ag:Option Addr) (n cg Bg:Nat) (gi:List Int) (Ar:Option Addr) (nr cr Br:Nat) (rs:List RuleM) (w:World) (hp:PGc w s Ag n cg Bg gi Ar nr cr Br rs) (hT:Tz w):
 Calls Tryz.prog 18 #[.agg #[.int .i64 s,.slice Ag n cg,.slice Ar nr cr]] w fun e w'=>∃ A m c,e=.returned (.tuple #[.slice A m c,.bool (sfB s n gi rs)])/\(sfB s n gi rs=true->m=n)/\Ow w' w.heap.size A m c (sfL s n gi rs)/\Below w.heap.size w w':=by
 have hx0:=pbox_new w s Ag n cg Ar nr cr 26;obtain ⟨W1,hW1⟩:∃ W1,w.alloc (.cells #[.int .i64 s,.slice Ag n cg,.slice Ar nr cr] 26)=W1:=⟨_,rfl⟩;rw [hW1] at hx0
 have hb1:Below w.heap.size w W1:=by rw [<- hW1];exact (Below.refl _ _).alloc (Nat.le_refl _) _
 have hs1:W1.heap.size=w.heap.size+1:=by rw [<- hW1];simp
 obtain ⟨W2,hW2⟩:∃ W2,W1.alloc (.cells #[.slice none 0 0] 23)=W2:=⟨_,rfl⟩
 have hb2:Below W1.heap.size W1 W2:=by rw [<- hW2];exact (Below.refl _ _).alloc (Nat.le_refl _) _
 have hs2:W2.heap.size=w.heap.size+1+1:=by rw [<- hW2];simp [hs1]
 have hr2:W2.heap[w.heap.size+1]? =some (.cells #[.slice none 0 0] 23):=by rw [<- hW2,<-hs1];exact heap_alloc_new _ _
 obtain ⟨W3,hW3⟩:∃ W3,W2.alloc (.cells #[.bool false] 4)=W3:=⟨_,rfl⟩
 have hb3:Below W2.heap.size W2 W3:=by rw [<- hW3];exact (Below.refl _ _).alloc (Nat.le_refl _) _
 have hs3:W3.heap.size=w.heap.size+1+1+1:=by rw [<- hW3];simp [hs2]
 have hr3:W3.heap[w.heap.size+1]? =some (.cells #[.slice none 0 0] 23):=(hb3.block _ (by omega)).trans hr2
 have hq3:W3.heap[w.heap.size+1+1]? =some (.cells #[.bool false] 4):=by rw [<- hW3,<-hs2];exact heap_alloc_new _ _
 have hx3:=(hx0.below (by omega) hb2).below (by omega) hb3;have hbW:Below w.heap.size w W3:=(hb1.trans (hb2.mono (by omega))).trans (hb3.mono (by omega));have HV:=Lib.hid (valid_any s Ag n cg Bg gi Ar nr cr Br rs W3 (hp.below hbW));have HB3:=Lib.hid hbW;have HX3:=Lib.hid hx3;have HR3:=Lib.hid (And.intro hr3 hq3);obtain ⟨z0,z1,z2⟩:=id hx3;clear hb1 hb2 hb3 hr2 hr3 hq3 hx0 hx3 hbW;refine (callsIn_wide (n:=9)).1 ?_;refine callsIn_of_wp_marks Tryz.func18 rfl trivial ?_ rfl;simp only [Tryz.ntmps18,List.size_toArray,List.length_cons,List.length_nil,Nat.reduceAdd,Nat.reduceSub,Array.replicate_succ,Array.replicate_zero,List.push_toArray,List.append_toArray,List.nil_append,List.cons_append]
 cases hv:pvB s gi rs
 ·have H1:sfB s n gi rs=false/\sfL s n gi rs=[]:=by unfold sfB sfL;rw [allS_none hv];exact ⟨rfl,rfl⟩
  rw [H1.1,H1.2];clear H1
  gi_wp2_with ((try refine ⟨trivial,?_⟩);gi_at_call 48;refine (callsIn_wide.2 HV.out).mono ?_;rintro e w4 ⟨rfl,hb4⟩;rw [hv];obtain ⟨hr3,hq3⟩:=HR3.out;have hr4:=(hb4.block _ (by omega)).trans hr3;have hq4:=(hb4.block _ (by omega)).trans hq3;have hcr:=cell_of_row _ _ 0 _ _ (0,0) hr4;have hfr:=frozen_of_row _ _ 0 _ _ hr4;have hcq:=cell_of_row _ _ 0 _ _ (0,0) hq4;have hfq:=frozen_of_row _ _ 0 _ _ hq4)
  have e1:=heap_setCell_same w4 (w.heap.size+1) 0 _ _ (.slice none 0 0) hr4;have e2:=(heap_setCell_other w4 ⟨w.heap.size+1,0,none⟩ (w.heap.size+1+1) (.slice none 0 0) (fun e=>by dsimp only at e;omega)).trans hq4;have e3:=(heap_setCell_other _ ⟨w.heap.size+1+1,0,none⟩ (w.heap.size+1) (.bool false) (fun e=>by dsimp only at e;omega)).trans e1;have e4:=heap_setCell_same _ (w.heap.size+1+1) 0 _ _ (.bool false) e2;exact ⟨_,sf_results _ _ (w.heap.size+1) (w.heap.size+1+1) none 0 0 false rfl rfl (cell_of_row _ _ 0 _ _ (0,0) e3) (cell_of_row _ _ 0 _ _ (0,0) e4),none,0,0,rfl,(fun h=>by cases h),Ow.nil_ _ _,((step HB3.out hb4).setCell (p:=⟨w.heap.size+1,0,none⟩) (by show w.heap.size<=w.heap.size+1;omega) _).setCell (p:=⟨w.heap.size+1+1,0,none⟩) (by show w.heap.size<=w.heap.size+1+1;omega) _⟩
 ·obtain ⟨t,rfl,hs,hnn,hn16,hok⟩:=pv_grid hv hp.g.1
  have hn:n=t*t:=by simp at hs;rcases hs with rfl|rfl|rfl<;>omega
  have hn0:0<n:=by simp at hs;rcases hs with rfl|rfl|rfl<;>omega
  have hgl:=hp.g.1
  have hmr:nr<=20:=by have:=(pv_gv hv).2.1;have:=hp.r.1;omega
  have HG:=Lib.hid (hp.g.more hp.gB);have HR:=Lib.hid (hp.r.more hp.rB);have HT:=Lib.hid (fun X (hb:Below w.heap.size w X)=>hT.below hT.lt hb);have HN:=Lib.hid hn;have HV2:=Lib.hid hv;have Hgl:=Lib.hid hgl;clear hok hnn hn hgl hp hT
  gi_wp2_with (first
   |((try refine ⟨trivial,?_⟩);gi_at_call 48;refine (callsIn_wide.2 HV.out).mono ?_;rintro e w4 ⟨rfl,hb4⟩;rw [hv];have hx4:=HX3.out.below (show w.heap.size<W3.heap.size by omega) hb4;obtain ⟨y0,y1,y2⟩:=id hx4)
   |((try refine ⟨trivial,?_⟩);gi_at_call 57;refine (callsIn_wide.2 (solutions_any t n Ag cg Ar nr cr w4)).mono ?_;rintro e w5 ⟨PB,rfl,hPl,hpb,hb5⟩))
  have h45:=hb5.size;have h34:=hb4.size;have hb35:Below W3.heap.size W3 w5:=hb4.trans (hb5.mono h34);have hb05:Below w.heap.size w w5:=HB3.out.trans (hb35.mono (by omega));obtain ⟨hr3,hq3⟩:=HR3.out;have hr5:=(hb35.block _ (by omega)).trans hr3;have hq5:=(hb35.block _ (by omega)).trans hq3;have hPB:=cell_lt hpb.1
  have d1:w.heap.size+1+1<w5.heap.size:=by omega
  clear z0 z1 z2 y0 y1 y2 hx4 hb4 hb5 hb35 hr3 hq3 hW1 hW2 hW3 hs1 hs2 hs3 h45 h34 hPl hv HV
  refine range_twoP 9 (q:=4) (by rfl) (enters_of Tryz.func106 (by kernel_rfl) rfl) (sols_seq w w.heap.size PB t n Ag cg gi Ar nr cr rs (Nat.le_refl _) hs HN.out HG.out HR.out hmr HV2.out HT.out)
   (fun pre X=>pre=[]/\SBase w w.heap.size PB t Ag n cg Ar nr cr X/\X.heap[w.heap.size+1]? =some (.cells #[.slice none 0 0] 23)/\X.heap[w.heap.size+1+1]? =some (.cells #[.bool false] 4))
   (fun cc X=>cc=.ret/\∃ y zs A c,cv t gi rs (t*t) []=y::zs/\Below w.heap.size w X/\X.heap[w.heap.size+1]? =some (.cells #[.slice A n c] 23)/\Ow X w.heap.size A n c y/\X.heap[w.heap.size+1+1]? =some (.cells #[.bool true] 4)/\∀ g,(Value.slice A n c).ownBlock=some g->w5.heap.size+1<g)
   (fun pre X h=>h.2.1)
   (fun pre X Y h hb=>⟨h.1,⟨h.2.1.1.trans (hb.mono (by omega)),h.2.1.2.below hPB hb⟩,(hb.block _ (by omega)).trans h.2.2.1,(hb.block _ d1).trans h.2.2.2⟩)
   (fun cc X o h hX=>by
     obtain ⟨h1,y,zs,A,c,h2,h3,h4,h5,h6,h7⟩:=h;refine ⟨h1,y,zs,A,c,h2,h3.trans (below_put_at _ (by omega) hX),(World.putObj_heap_other (by omega)).trans h4,?_,(World.putObj_heap_other (by omega)).trans h6,h7⟩
     exact h5.same_own hn0 (fun g e=>World.putObj_heap_other (by have:=h7 g e;omega)))
   ⟨rfl,⟨hb05,hpb⟩,hr5,hq5⟩ ?assign ?body ?done ?stop
  case assign=>
   intro l v W K hK;simp only [List.setIfInBounds_toArray,List.set_cons_zero,List.set_cons_succ] at hK ⊢
   gi_wp2
   exact hK
  case body=>
   rintro l pre x X b n' c' ⟨rfl,⟨hBX,hpX⟩,hrX,hqX⟩ ⟨zs,hzs⟩ hbb hXs hrd;have hxl:=cv_len Hgl.out HV2.out HN.out hs (show x∈cv t gi rs (t*t) [] by rw [hzs];simp)
   obtain rfl:n'=n:=by rw [<- hrd.1];exact hxl
   have HCl:=Lib.hid (clone_any (some ⟨b,0,none⟩) n' c' X.heap.size x X hrd (Nat.le_refl _) hn0 (by omega));have hXl:w.heap.size+1+1<X.heap.size:=(Array.getElem?_eq_some_iff.1 hqX).1;have Hzs:=Lib.hid hzs;have HBX:=Lib.hid hBX;have Hrd:=Lib.hid hrd;clear hzs hxl hpX hBX hrd;simp only [List.setIfInBounds_toArray,List.set_cons_zero,List.set_cons_succ]
   gi_wp2_with ((try refine ⟨trivial,?_⟩);gi_at_call 58;refine (callsIn_wide.2 HCl.out).mono ?_;rintro e w6 ⟨A6,c6,rfl,ho6,hb6⟩;have hr6:=(hb6.block _ (by omega)).trans hrX;have hq6:=(hb6.block _ hXl).trans hqX;have hcr:=cell_of_row _ _ 0 _ _ (0,0) hr6;have hfr:=frozen_of_row _ _ 0 _ _ hr6;have hcq:=cell_of_row _ _ 0 _ _ (0,0) hq6;have hfq:=frozen_of_row _ _ 0 _ _ hq6)
   obtain ⟨g6,rfl,hg6,hgw6⟩:=ho6.form hn0;have e1:=heap_setCell_same w6 (w.heap.size+1) 0 _ _ (.slice (some ⟨g6,0,none⟩) n' c6) hr6;have e2:=(heap_setCell_other w6 ⟨w.heap.size+1,0,none⟩ (w.heap.size+1+1) (.slice (some ⟨g6,0,none⟩) n' c6) (fun e=>by dsimp only at e;omega)).trans hq6;have e3:=(heap_setCell_other _ ⟨w.heap.size+1+1,0,none⟩ (w.heap.size+1) (.bool true) (fun e=>by dsimp only at e;omega)).trans e1;have e4:=heap_setCell_same _ (w.heap.size+1+1) 0 _ _ (.bool true) e2;have hX6:=hb6.size
   have hoE:Ow ((w6.setCell ⟨w.heap.size+1,0,none⟩ (.slice (some ⟨g6,0,none⟩) n' c6)).setCell ⟨w.heap.size+1+1,0,none⟩ (.bool true)) w.heap.size (some ⟨g6,0,none⟩) n' c6 x:=
    (ho6.mono (by omega)).same ((heap_setCell_other _ ⟨w.heap.size+1+1,0,none⟩ g6 (.bool true) (fun e=>by dsimp only at e;omega)).trans (heap_setCell_other w6 ⟨w.heap.size+1,0,none⟩ g6 (.slice (some ⟨g6,0,none⟩) n' c6) (fun e=>by dsimp only at e;omega)))
   refine ⟨(Mid.of_below hb6).trans ((Mid.setCell _ _ _ _ _ (by omega)).trans (Mid.setCell _ _ _ _ _ (by omega))),rfl,x,zs,_,c6,Hzs.out,((HBX.out.trans (hb6.mono (by omega))).setCell (p:=⟨w.heap.size+1,0,none⟩) (by show w.heap.size<=w.heap.size+1;omega) _).setCell (p:=⟨w.heap.size+1+1,0,none⟩) (by show w.heap.size<=w.heap.size+1+1;omega) _,e3,hoE,e4,fun g e=>?_⟩;have e:g6=g:=Option.some.inj e;omega
  case done=>
   rintro D W hD ⟨he,⟨hBX,_⟩,hrX,hqX⟩ hK;obtain ⟨q1,q2⟩:=sf_nil Hgl.out HV2.out HN.out he;have hcr:=cell_of_row _ _ 0 _ _ (0,0) hrX;have hfr:=frozen_of_row _ _ 0 _ _ hrX;have hcq:=cell_of_row _ _ 0 _ _ (0,0) hqX;have hfq:=frozen_of_row _ _ 0 _ _ hqX
   gi_wp2
   have e1:=heap_setCell_same W (w.heap.size+1) 0 _ _ (.slice none 0 0) hrX;have e2:=(heap_setCell_other W ⟨w.heap.size+1,0,none⟩ (w.heap.size+1+1) (.slice none 0 0) (fun e=>by dsimp only at e;omega)).trans hqX;have e3:=(heap_setCell_other _ ⟨w.heap.size+1+1,0,none⟩ (w.heap.size+1) (.bool false) (fun e=>by dsimp only at e;omega)).trans e1;have e4:=heap_setCell_same _ (w.heap.size+1+1) 0 _ _ (.bool false) e2;have e5:=(heap_setCell_other _ ⟨w.heap.size+1+1,0,none⟩ D (.bool false) (fun e=>by dsimp only at e;omega)).trans ((heap_setCell_other W ⟨w.heap.size+1,0,none⟩ D (.slice none 0 0) (fun e=>by dsimp only at e;omega)).trans hK)
   have hbE:=((hBX.setCell (p:=⟨w.heap.size+1,0,none⟩) (by show w.heap.size<=w.heap.size+1;omega) (.slice none 0 0)).setCell (p:=⟨w.heap.size+1+1,0,none⟩) (by show w.heap.size<=w.heap.size+1+1;omega) (.bool false)).trans (below_put (.deferred none) (show w.heap.size<=D by omega) e5);refine ⟨by simp,.inl ⟨_,_,rfl,run_takeDeferred e5,?_⟩⟩;refine ⟨_,sf_results _ _ (w.heap.size+1) (w.heap.size+1+1) none 0 0 false rfl rfl (cell_of_row _ _ 0 _ _ (0,0) ((World.putObj_heap_other (by omega)).trans e3)) (cell_of_row _ _ 0 _ _ (0,0) ((World.putObj_heap_other (by omega)).trans e4)),?_⟩
   exact ⟨none,0,0,rfl,Ow.nil_ _ _,hbE⟩
  case stop=>
   rintro D cc W hD ⟨rfl,y,zs,A,c,hc,hBX,hrX,hoX,hqX,hlo⟩ hK;obtain ⟨q1,q2⟩:=sf_cons Hgl.out HV2.out HN.out hc
   gi_wp2
   refine ⟨by simp,.inl ⟨_,_,rfl,run_takeDeferred hK,?_⟩⟩
   have hgD:∀ g,(Value.slice A n c).ownBlock=some g->g≠D:=fun g e e2=>by
    subst e2;obtain ⟨g',e3,_,_⟩:=hoX.form hn0;subst e3;obtain ⟨h1,h2⟩:=hoX.cell (show 0<n from hn0)
    injection e with e
    subst e;rw [cell_none_of_deferred hK] at h1;cases h1
   refine ⟨_,sf_results _ _ (w.heap.size+1) (w.heap.size+1+1) A n c true rfl rfl (cell_of_row _ _ 0 _ _ (0,0) ((World.putObj_heap_other (by omega)).trans hrX)) (cell_of_row _ _ 0 _ _ (0,0) ((World.putObj_heap_other (by omega)).trans hqX)),?_⟩;exact ⟨A,n,c,rfl,rfl,hoX.same_own hn0 (fun g e=>World.putObj_heap_other (fun e2=>hgD g e e2)),hBX.trans (below_put _ (by omega) hK)⟩
attribute [local go_sem] Oper.semAt_some
end Go.Proofs.YtcjdjcpappfkgaaGreatDoor
namespace Go.Proofs.YtcjdjcpappfkgaaGreatDoor
open Go.ChangeShapes Go.WideShapes Go.ChangeAt Go.RowKit
theorem cv_sqL {s:Nat} {gi:List Int} {rs:List RuleM} {n:Nat} (hl:gi.length=n) (hv:pvB s gi rs=true) (hn:n=s*s):cv s gi rs (s*s) []=(sqL s).filter (psB s gi rs):=by
 rw [<- solL_is hv,<-hn,<-hl];exact cv_is hv
theorem sf_psM {s:Nat} {gi:List Int} {rs:List RuleM} {n:Nat} (hl:gi.length=n) (hv:pvB s gi rs=true) (hn:n=s*s) (h:sfB s n gi rs=true):psB s gi rs (sfL s n gi rs)=true:=by
 cases e:cv s gi rs (s*s) [] with
 |nil=>rw [(sf_nil hl hv hn e).2] at h;cases h
 |cons y zs=>
  rw [(sf_cons hl hv hn e).1]
  have:y∈(sqL s).filter (psB s gi rs):=by rw [<- cv_sqL hl hv hn,e];exact List.mem_cons_self ..
  exact (List.mem_filter.1 this).2
section
variable {P : Program} {md : Region.Mode} {ops : Array Oper} {Q : Exit → Act → World → Prop} {Inv : Array Bool → Act → World → Prop}
theorem wpAny_invU (hback:∀ (i:Nat) (o:Oper),ops[i]? =some o->∀ e∈o.after,Region.binds md e=true->e.on<i) (hsz:∀ l a w,Inv l a w->l.size=ops.size)
 (hstep:∀ l a w (i:Nat) (o:Oper),Inv l a w->ops[i]? =some o->l.getD i true=false->(∀ e∈o.after,Region.binds md e=true->l.getD e.on false=true)->wpOp P ops Q i (Inv (l.setIfInBounds i true)) a w)
 (hdone:∀ l a w,Inv l a w->(∀ i,i<ops.size->l.getD i false=true)->Q .normal a w):
 ∀ fuel l a w,unl l<=fuel->Inv l a w->wpAny P md ops Q fuel l a w:=by
 have fin:∀ l a w,Inv l a w->Region.ready md ops l=[]->Q .normal a w:=by
  intro l a w hI hr;refine hdone l a w hI ?_;intro i
  induction i using Nat.strongRecOn with
  |ind i ih=>
   intro hi
   cases hb:l.getD i false with
   |true=>rfl
   |false=>
    exfalso
    have hil:i<l.size:=(by rw [hsz l a w hI];exact hi);have ho:ops[i]? =some ops[i]:=Array.getElem?_eq_getElem hi;have:i∈Region.ready md ops l:=mem_ready.2 ⟨by simpa [hil] using hb,ops[i],ho,fun e he hbd=>ih e.on (hback i _ ho e he hbd) (Nat.lt_trans (hback i _ ho e he hbd) hi)⟩;rw [hr] at this;cases this
 intro fuel
 induction fuel with
 |zero=>
  intro l a w hu hI
  have hr:Region.ready md ops l=[]:=by
   cases e:Region.ready md ops l with
   |nil=>rfl
   |cons j r=>
    have hj:j∈Region.ready md ops l:=(by rw [e];exact List.mem_cons_self ..);have h1:=(mem_ready.1 hj).1;rw [unl_zero (by omega) j] at h1;cases h1
  exact ⟨hr,fin l a w hI hr⟩
 |succ fuel ih=>
  intro l a w hu hI;refine ⟨fin l a w hI,fun i hi=>?_⟩;obtain ⟨h1,o,ho,hall⟩:=mem_ready.1 hi;refine wpOp_mono (fun a' w' h=>ih _ a' w' ?_ h) (hstep l a w i o hI ho h1 hall);have:=unl_set h1;omega
theorem wp_region_invU {id:Nat} {a:Act} {w:World} (hm:P.follows .mixedOrders=true) (hback:∀ (i:Nat) (o:Oper),ops[i]? =some o->∀ e∈o.after,Region.binds .any e=true->e.on<i) (hsz:∀ l a w,Inv l a w->l.size=ops.size)
 (hstep:∀ l a w (i:Nat) (o:Oper),Inv l a w->ops[i]? =some o->l.getD i true=false->(∀ e∈o.after,Region.binds .any e=true->l.getD e.on false=true)->wpOp P ops Q i (Inv (l.setIfInBounds i true)) a w)
 (hdone:∀ l a w,Inv l a w->(∀ i,i<ops.size->l.getD i false=true)->Q .normal a w)
 (h0:Inv (Array.replicate ops.size false) a { w with drawn:=w.drawn+1 }):(Code.region id ops true).wp P Q a w:=
 wp_region_any hm (wpAny_invU hback hsz hstep hdone _ _ _ _ (by
  unfold unl
  exact Nat.le_trans (List.countP_le_length) (by simp)) h0)
end
theorem wp_region_madeU {P:Program} {ops:Array Oper} {Q:Exit->Act->World->Prop} {id:Nat} {a0:Act} {W:World} (m:Nat) (d:Nat->Nat) (G:Nat->Value->World->Prop) (Rel:World->World->Prop) (Eff:Nat->World->World->Prop) (C:Nat->World->Prop) (hC0:∀ j,C j W.drew) (hrefl:Rel W W.drew) (htrans:∀ w w',Rel W w->Rel w w'->Rel W w')
 (hm:P.follows .mixedOrders=true) (hlen:ops.size=m) (hback:∀ (i:Nat) (o:Oper),ops[i]? =some o->∀ e∈o.after,Region.binds .any e=true->e.on<i)
 (hd:∀ i o,i<m->ops[i]? =some o->(o.dst=some (d i)\/(o.dst=none/\∀ v v' w,G i v w->G i v' w))/\o.guard=none) (hinj:∀ i j,i<m->j<m->d i=d j->i=j) (hlt:∀ i,i<m->d i<a0.tmps.size)
 (hG:∀ j i v w w',j≠i->Rel W w->Eff i w w'->G j v w->G j v w')
 (hstep:∀ i o a w (K:Act->World->Prop) (D:Nat->Prop),(∀ e∈o.after,Region.binds .any e=true->D e.on)->(∀ i' o',ops[i']? =some o'->D i'->∀ e∈o'.after,Region.binds .any e=true->D e.on)->i<m->ops[i]? =some o->Rel W w->Off d m a a0->(∀ e∈o.after,Region.binds .any e=true->G e.on (a.eval (.tmp (d e.on))) w)->C i w->(∀ v w',Rel w w'->Eff i w w'->(∀ j,j≠i->¬ D j->C j w->C j w')->G i v w'->K (a.put o.dst v) w')->o.wp P a w K Q)
 (hfin:∀ a w,Rel W w->Off d m a a0->(∀ j,j<m->G j (a.eval (.tmp (d j))) w)->Q .normal a w):
 (Code.region id ops true).wp P Q a0 W:=by
 refine wp_region_invU (Inv:=fun l a w=>(l.size=ops.size/\∀ i' o',ops[i']? =some o'->l.getD i' false=true->∀ e∈o'.after,Region.binds .any e=true->l.getD e.on false=true)/\(Rel W w/\Off d m a a0/\(∀ j,l.getD j false=false->C j w)/\∀ j,j<m->l.getD j false=true->G j (a.eval (.tmp (d j))) w)) hm hback (fun l a w h=>h.1.1) ?step ?done ?h0
 case done=>
  rintro l a w ⟨_,hb,hoff,_,hg⟩ hall;exact hfin a w hb hoff (fun j hj=>hg j hj (hall j (by omega)))
 case h0=>
  refine ⟨⟨by simp,fun i' o' _ hd'=>by rw [Array.getD_eq_getD_getElem?,Array.getElem?_replicate] at hd';split at hd'<;>cases hd'⟩,hrefl,⟨rfl,rfl,fun _ _=>rfl⟩,fun j _=>hC0 j,fun j hj hlj=>?_⟩
  simp at hlj
  have:j<ops.size:=by omega
  simp [this] at hlj
 case step=>
  rintro l a w i o ⟨⟨hs,hcl⟩,hb,hoff,hcj,hg⟩ ho hli hall;have hi:i<ops.size:=(Array.getElem?_eq_some_iff.1 ho).1
  have hil:i<l.size:=by omega
  refine wpOp_step ho (fun K hK=>?_)
  have hset:∀ j,(l.setIfInBounds i true).getD j false=if j=i then true else l.getD j false:=fun j=>by
   by_cases e:j=i
   ·subst e;simp [hil]
   ·rw [if_neg e];simp [Array.getElem?_setIfInBounds_ne (fun e'=>e (Eq.symm e'))]
  have hsz:(l.setIfInBounds i true).size=ops.size/\∀ i' o',ops[i']? =some o'->(l.setIfInBounds i true).getD i' false=true->∀ e∈o'.after,Region.binds .any e=true->(l.setIfInBounds i true).getD e.on false=true:=by
   refine ⟨by simpa using hs,fun i' o' ho' hd' e he hbd=>?_⟩;rw [hset] at hd' ⊢
   split
   ·rfl
   ·split at hd'
    ·rename_i _ hii
     subst hii;rw [ho] at ho'
     injection ho' with ho'
     subst ho';exact hall e he hbd
    ·exact hcl i' o' ho' hd' e he hbd
  have him':i<m:=by omega
  obtain ⟨q1,q2⟩:=hd i o him' ho
  have hpre:∀ e∈o.after,Region.binds .any e=true->G e.on (a.eval (.tmp (d e.on))) w:=fun e he hbd=>hg e.on (Nat.lt_trans (hback i o ho e he hbd) him') (hall e he hbd)
  rw [if_pos (by simp [Region.wanted,q2])]
  have hdlt:d i<a.tmps.size:=by rw [hoff.1];exact hlt i him'
  refine hstep i o a w K (fun j=>l.getD j false=true) hall hcl him' ho hb hoff hpre (hcj i (by simp [hil] at hli ⊢;exact hli)) (fun v w' hb' hef hcs hgi=>?_)
  rcases q1 with q1|⟨q1,hind⟩
  ·refine hK _ _ ⟨hsz,htrans _ _ hb hb',?_,fun j hlj=>(by rw [hset] at hlj;split at hlj;(cases hlj);(rename_i hji;exact hcs j hji (fun e2=>by rw [e2] at hlj;cases hlj) (hcj j hlj))),fun j hj hlj=>?_⟩
   ·rw [q1];refine ⟨by rw [size_put];exact hoff.1,hoff.2.1,fun t ht=>?_⟩;rw [<- hoff.2.2 t ht]
    simp [Act.put,Array.getElem?_setIfInBounds_ne (ht i him')]
   ·rw [q1]
    by_cases e:j=i
    ·subst e;rw [eval_put_same hdlt];exact hgi
    ·rw [eval_put_ne (fun e'=>e (hinj _ _ hj him' e'.symm))];rw [hset,if_neg e] at hlj;exact hG _ _ _ _ _ e hb hef (hg j hj hlj)
  ·rw [q1]
   show K a w'
   refine hK _ _ ⟨hsz,htrans _ _ hb hb',hoff,fun j hlj=>(by rw [hset] at hlj;split at hlj;(cases hlj);(rename_i hji;exact hcs j hji (fun e2=>by rw [e2] at hlj;cases hlj) (hcj j hlj))),fun j hj hlj=>?_⟩
   show G j (a.eval (.tmp (d j))) w'
   by_cases e:j=i
   ·subst e;exact hind _ _ _ hgi
   ·rw [hset,if_neg e] at hlj;exact hG _ _ _ _ _ e hb hef (hg j hj hlj)
def chkOpsU (ops:Array Oper) (ds ns:List Nat):Bool:=
 ops.size==ds.length&&((List.range ops.size).all fun i=>match ops[i]? with
  |some o=>o.after.all fun e=> !Region.binds .any e||decide (e.on<i)
  |none=>false)&&((List.range ds.length).all fun i=>match ops[i]? with
  |some o=>(if ns.contains i then o.dst.isNone else decide (o.dst=some (ds.getD i 0)))&&o.guard.isNone
  |none=>false)&&decide ds.Nodup
theorem wp_region_dsU {P:Program} {ops:Array Oper} {Q:Exit->Act->World->Prop} {id:Nat} {a0:Act} {W:World} (ds ns:List Nat) (G:Nat->Value->World->Prop) (Rel:World->World->Prop) (Eff:Nat->World->World->Prop) (C:Nat->World->Prop) (hC0:∀ j,C j W.drew) (hrefl:Rel W W.drew) (htrans:∀ w w',Rel W w->Rel w w'->Rel W w')
 (hm:P.follows .mixedOrders=true) (hc:chkOpsU ops ds ns=true) (hlt:∀ t∈ds,t<a0.tmps.size) (hns:∀ i,i∈ns->∀ v v' w,G i v w->G i v' w)
 (hG:∀ j i v w w',j≠i->Rel W w->Eff i w w'->G j v w->G j v w')
 (hstep:∀ (i:Nat) (o:Oper) (a:Act) (w:World) (K:Act->World->Prop) (D:Nat->Prop),(∀ e∈o.after,Region.binds .any e=true->D e.on)->(∀ i' o',ops[i']? =some o'->D i'->∀ e∈o'.after,Region.binds .any e=true->D e.on)->i<ds.length->ops[i]? =some o->Rel W w->(∀ t,t∉ds->a.eval (.tmp t)=a0.eval (.tmp t))->(∀ e∈o.after,Region.binds .any e=true->G e.on (a.eval (.tmp (ds.getD e.on 0))) w)->C i w->(∀ v w',Rel w w'->Eff i w w'->(∀ j,j≠i->¬ D j->C j w->C j w')->G i v w'->K (a.put o.dst v) w')->o.wp P a w K Q)
 (hfin:∀ (a:Act) (w:World),Rel W w->a.defers=a0.defers->a.tmps=ds.foldl (fun tm t=>tm.setIfInBounds t (a.tmps.getD t undef)) a0.tmps->(∀ j,j<ds.length->G j (a.eval (.tmp (ds.getD j 0))) w)->Q .normal a w):
 (Code.region id ops true).wp P Q a0 W:=by
 simp only [chkOpsU,Bool.and_eq_true,beq_iff_eq,List.all_eq_true,List.mem_range,decide_eq_true_eq] at hc;obtain ⟨⟨⟨c1,c2⟩,c3⟩,c5⟩:=hc
 have hout:∀ t,t∉ds->∀ j,j<ds.length->ds.getD j 0≠t:=fun t ht j hj e=>ht (by
  rw [<- e,List.getD_eq_getElem?_getD,List.getElem?_eq_getElem hj];exact List.getElem_mem _)
 have hmem:∀ j,j<ds.length->ds.getD j 0∈ds:=fun j hj=>by
  rw [List.getD_eq_getElem?_getD,List.getElem?_eq_getElem hj];exact List.getElem_mem _
 refine wp_region_madeU ds.length (fun j=>ds.getD j 0) G Rel Eff C hC0 hrefl htrans hm c1 ?back ?hd ?inj (fun i hi=>hlt _ (hmem i hi)) hG ?step ?fin
 case back=>
  intro i o ho e he hbd;have hi:i<ops.size:=(Array.getElem?_eq_some_iff.1 ho).1;have:=c2 i hi;rw [ho] at this;simp only [Array.all_eq_true_iff_forall_mem,Bool.or_eq_true,decide_eq_true_eq] at this
  rcases this e he with h|h
  ·rw [hbd] at h;cases h
  ·exact h
 case hd=>
  intro i o hi ho;have:=c3 i hi;rw [ho] at this;simp only [Bool.and_eq_true,Option.isNone_iff_eq_none] at this;refine ⟨?_,this.2⟩;have h1:=this.1
  split at h1
  ·next hn=>exact .inr ⟨by simpa using h1,hns i (by simpa using hn)⟩
  ·exact .inl (by simpa using h1)
 case inj=>
  intro i j hi hj e;simp only [List.getD_eq_getElem?_getD,List.getElem?_eq_getElem hi,List.getElem?_eq_getElem hj,Option.getD_some] at e;exact (List.getElem_inj c5).1 e
 case step=>
  intro i o a w K D hD hcl hi ho hb hoff hpre hc hK;exact hstep i o a w K D hD hcl hi ho hb (fun t ht=>hoff.eval (hout t ht)) hpre hc hK
 case fin=>
  intro a w hb hoff hpre;refine hfin a w hb hoff.2.1 (frame_of ds hoff.1 (fun t ht=>hoff.2.2 t (hout t ht))) hpre
theorem oper_skip {P:Program} {o:Oper} {a:Act} {w w':World} {K:Act->World->Prop} {Q:Exit->Act->World->Prop} (hrun:(execOp a.eval o).run P w=.ok .skip w') (h:K (a.put o.dst undef) w'):o.wp P a w K Q:=by
 unfold Oper.wp;rw [hrun];exact h
def MwG (G R:Nat) (pz:Array Value) (mv:Value):Nat->Value->World->Prop
 |0,v,_=>v=.agg pz
 |1,v,_=>v=mv
 |2,v,_=>v=.pointer (some ⟨G,0,none⟩)
 |3,v,_=>∃ x:Int,v=.int .i64 x/\0<=x/\x<4
 |4,v,_=>∃ x:Int,v=.int .i64 x/\1<=x/\x<=4
 |5,v,w=>∃ (g:Nat) (x:Int),v=.slice (some ⟨g,0,none⟩) 4 4/\w.heap[g]? =some (.cells #[.int .i64 x,.int .i64 4,.int .i64 0,.int .i64 5] 3)/\1<=x/\x<=4/\g≠G/\g≠R
 |6,v,w=>∃ g:Nat,v=.slice (some ⟨g,0,none⟩) 7 7/\w.heap[g]? =some (.cells #[.int .i64 0,.int .i64 0,.int .i64 0,.int .i64 1,.int .i64 1,.int .i64 2,.int .i64 3] 3)/\g≠G/\g≠R
 |7,v,_=>v=.pointer (some ⟨G,0,none⟩)
 |8,v,_=>∃ x:Int,v=.int .i64 x/\0<=x/\x<7
 |9,v,w=>∃ g u:Nat,v=.pointer (some ⟨g,u,none⟩)/\w.heap[g]? =some (.cells #[.int .i64 0,.int .i64 0,.int .i64 0,.int .i64 1,.int .i64 1,.int .i64 2,.int .i64 3] 3)/\u<7/\g≠G/\g≠R
 |10,v,_=>∃ x:Int,v=.int .i64 x/\0<=x/\x<=3
 |11,v,w=>∃ (g u:Nat) (x:Int),v=.pointer (some ⟨g,u,none⟩)/\w.heap[g]? =some (.cells #[.int .i64 x,.int .i64 4,.int .i64 0,.int .i64 5] 3)/\1<=x/\x<=4/\u<4/\g≠G/\g≠R
 |12,v,_=>∃ x:Int,v=.int .i64 x/\0<=x/\x<=5
 |13,_,w=>w.heap[R]? =some (.cells pz 26)
 |14,v,_=>v=mv
 |15,v,_=>∃ x:Int,v=.int .i64 x/\0<=x/\x<=5
 |_,_,_=>True
structure MwR (G R:Nat) (W w:World):Prop where
 os:w.os=W.os
 tape:w.tape=W.tape
 output:w.output=W.output
 size:W.heap.size<=w.heap.size
 same:∀ k,k<W.heap.size->k≠G->k≠R->w.heap[k]? =W.heap[k]?
 row:∀ cs:Array Value,W.heap[R]? =some (.cells cs 26)->cs.size=3->∃ cs':Array Value,w.heap[R]? =some (.cells cs' 26)/\cs'.size=3
theorem mwR_refl {G R:Nat} (w:World):MwR G R w w:=⟨rfl,rfl,rfl,Nat.le_refl _,fun _ _ _ _=>rfl,fun cs h1 h2=>⟨cs,h1,h2⟩⟩
theorem MwR.trans {G R:Nat} {a b c:World} (h:MwR G R a b) (k:MwR G R b c):MwR G R a c:=
 ⟨k.os.trans h.os,k.tape.trans h.tape,k.output.trans h.output,Nat.le_trans h.size k.size,fun i hi h1 h2=>(k.same i (Nat.lt_of_lt_of_le hi h.size) h1 h2).trans (h.same i hi h1 h2),fun cs h1 h2=>by
   obtain ⟨c1,e1,e2⟩:=h.row cs h1 h2
   exact k.row c1 e1 e2⟩
theorem mwR_grown {G R:Nat} {w w':World} (hRG:R≠G) (h:w.grownBy w' (some G)):MwR G R w w':=
 ⟨h.os,h.tape,h.output,h.size,fun k hk h1 _=>h.block k hk (fun e=>h1 (Option.some.inj e)),fun cs h1 h2=>⟨cs,(h.block R (Array.getElem?_eq_some_iff.1 h1).1 (fun e=>hRG (Option.some.inj e))).trans h1,h2⟩⟩
theorem heap_alloc_old {w:World} {R:Nat} (hR:R<w.heap.size) (o:Obj):(w.alloc o).heap[R]? =w.heap[R]? :=((Below.refl _ w).alloc (Nat.le_refl _) o).block R hR
theorem mwR_alloc {G R:Nat} {w:World} (hR:R<w.heap.size) (o:Obj):MwR G R w (w.alloc o):=
 ⟨rfl,rfl,rfl,by simp,fun k hk _ _=>heap_alloc_old hk o,fun cs h1 h2=>⟨cs,(heap_alloc_old hR o).trans h1,h2⟩⟩
theorem mwR_row {G R:Nat} {w:World} {cs cs':Array Value} (hcs:w.heap[R]? =some (.cells cs 26)) (_h3:cs.size=3) (h:cs'.size=3):MwR G R w (w.setRow R cs'):=
 ⟨rfl,rfl,rfl,by simp [World.setRow],fun k _ _ h2=>by unfold World.setRow;simp only [Array.getElem?_modify];rw [if_neg (fun e=>h2 e.symm)],fun _ _ _=>⟨cs',setRow_heap (w:=w) R _ _ _ _ hcs,h⟩⟩
theorem mwG_eff {G R:Nat} {pz:Array Value} {mv:Value} {r:Nat} {v:Value} {w w':World} (hR:r=13->w'.heap[R]? =w.heap[R]?) (h:MwR G R w w') (hg:MwG G R pz mv r v w):MwG G R pz mv r v w':=by
 unfold MwG at hg ⊢
 split at hg
 all_goals first
  |exact hg
  |(obtain ⟨g,x,e,h1,h2,h3,h4,h5⟩:=hg
    exact ⟨g,x,e,(h.same g (Array.getElem?_eq_some_iff.1 h1).1 h4 h5).trans h1,h2,h3,h4,h5⟩)
  |(obtain ⟨g,e,h1,h4,h5⟩:=hg
    exact ⟨g,e,(h.same g (Array.getElem?_eq_some_iff.1 h1).1 h4 h5).trans h1,h4,h5⟩)
  |(obtain ⟨g,u,e,h1,h2,h4,h5⟩:=hg
    exact ⟨g,u,e,(h.same g (Array.getElem?_eq_some_iff.1 h1).1 h4 h5).trans h1,h2,h4,h5⟩)
  |(obtain ⟨g,u,x,e,h1,h2,h3,h6,h4,h5⟩:=hg
    exact ⟨g,u,x,e,(h.same g (Array.getElem?_eq_some_iff.1 h1).1 h4 h5).trans h1,h2,h3,h6,h4,h5⟩)
  |exact (hR rfl).trans hg
theorem lit7_cell {w:World} {g u:Nat} (h:w.heap[g]? =some (.cells #[.int .i64 0,.int .i64 0,.int .i64 0,.int .i64 1,.int .i64 1,.int .i64 2,.int .i64 3] 3)) (hu:u<7):∃ z:Int,w.cell? ⟨g,u,none⟩=some (.int .i64 z)/\0<=z/\z<=3:=by
 have:u=0\/u=1\/u=2\/u=3\/u=4\/u=5\/u=6:=by omega
 rcases this with rfl|rfl|rfl|rfl|rfl|rfl|rfl
 all_goals exact ⟨_,cell_of_row _ _ _ _ _ (0,0) h,by decide,by decide⟩
theorem lit4_cell {w:World} {g u:Nat} {x:Int} (h:w.heap[g]? =some (.cells #[.int .i64 x,.int .i64 4,.int .i64 0,.int .i64 5] 3)) (hu:u<4) (x1:1<=x) (x4:x<=4):∃ z:Int,w.cell? ⟨g,u,none⟩=some (.int .i64 z)/\0<=z/\z<=5:=by
 have:u=0\/u=1\/u=2\/u=3:=by omega
 rcases this with rfl|rfl|rfl|rfl
 ·exact ⟨x,cell_of_row _ _ 0 _ _ (0,0) h,by omega,by omega⟩
 all_goals exact ⟨_,cell_of_row _ _ _ _ _ (0,0) h,by decide,by decide⟩
theorem puz3:(Tryz.prog.info? 26).map (·.size)=some 3:=by kernel_rfl
theorem ow_mw {W Y:World} {G R lo n c:Nat} {A:Option Addr} {xs:List Int} (h:Ow W lo A n c xs) (hr:MwR G R W Y) (hG:G<lo) (hR:R<lo):Ow Y lo A n c xs:=by
 refine ⟨h.1,?_⟩
 rcases h.2 with h1|⟨g,cap,cur,hv,hlo,hg,h1⟩
 ·exact .inl h1
 ·exact .inr ⟨g,cap,cur,hv,hlo,(hr.same g (Array.getElem?_eq_some_iff.1 hg).1 (by omega) (by omega)).trans hg,h1⟩
theorem rd_mw {W Y:World} {G R B n:Nat} {A:Option Addr} {xs:List Int} (h:Rd W B A n xs) (hr:MwR G R W Y) (hne:∀ b off,A=some ⟨b,off,none⟩->b≠G/\b≠R) (hB:B<=W.heap.size):Rd Y B A n xs:=
 ⟨h.1,fun hn=>by
   obtain ⟨b,off,e,hl,hc⟩:=h.2 hn;obtain ⟨h1,h2⟩:=hne b off e
   exact ⟨b,off,e,hl,fun k hk=>(World.cell?_of_block (a:=⟨b,off+k,none⟩) (hr.same b (by omega) h1 h2)).trans (hc k hk)⟩⟩
theorem owR_mw {W Y:World} {G R lo k:Nat} {v:Value} {rs:List RuleM} (h:OwR W lo v rs k) (hr:MwR G R W Y) (hG:G<lo) (hR:R<lo):OwR Y lo v rs k:=by
 obtain ⟨vs,⟨hv,hcase⟩,hin⟩:=h;refine ⟨vs,⟨hv,?_⟩,fun i hi=>?_⟩
 ·rcases hcase with h1|⟨g,cap,cur,hv,hlo,hg,h1⟩
  ·exact .inl h1
  ·exact .inr ⟨g,cap,cur,hv,hlo,(hr.same g (Array.getElem?_eq_some_iff.1 hg).1 (by omega) (by omega)).trans hg,h1⟩
 ·obtain ⟨A',c',e0,e1,e2,e3,e4⟩:=hin i hi;exact ⟨A',c',e0,e1,e2,ow_mw e3 hr hG hR,e4⟩
def DrawnA (w:World) (e:Ending) (w':World):Prop:=∃ s A1 n c1 gi A2 nr c2 rs A k c m t,e=.returned (.tuple #[.agg #[.int .i64 s,.slice A1 n c1,.slice A2 nr c2],.slice A k c,.int .i64 t])/\2<=s/\s<=4/\Rd w' w'.heap.size A1 n gi/\n<=16/\OwR w' w.heap.size (.slice A2 nr c2) rs nr/\rs.length=nr/\nr<=100/\Ow w' w.heap.size A k c m/\k<=17/\Hid (smallM m k)/\0<=t/\t<=5/\Below w.heap.size w w'
set_option maxHeartbeats 8000000 in
theorem draw_DrawNarrowAll (A:Option Addr) (n c:Nat) (bs:List Int) (w:World) (h:Code_ w A n c bs):Calls Tryz.prog 33 #[.slice A n c] w (DrawnA w):=by
 have Hi:=Lib.hid puz_info;have Hi3:=Lib.hid puz3;have h1:=h.1.alloc_ (.cells #[.int .i64 0,.slice none 0 0,.slice none 0 0] 26);obtain ⟨w0,hW⟩:∃ w0,w0=w.alloc (.cells #[.int .i64 0,.slice none 0 0,.slice none 0 0] 26):=⟨_,rfl⟩;rw [<- hW] at h1
 have hRw:w.heap.size<w0.heap.size:=by rw [hW];simp
 have hb00:Below w.heap.size w w0:=by rw [hW];exact (Below.refl _ _).alloc (Nat.le_refl _) _
 have hR0:w0.heap[w.heap.size]? =some (.cells #[.int .i64 0,.slice none 0 0,.slice none 0 0] 26):=by rw [hW];exact heap_alloc_new w _
 have HW:=Lib.hid hW;clear hW
 go_enter Tryz.func33,Tryz.ntmps33
 go_wp2_with fail
 rw [<- HW.out];refine (specOpen A c n bs w0 h1 h.2.1 h.2.2).mono ?_;rintro e w1 ⟨rfl,hr,hb⟩;have hR1:=(hb.block w.heap.size hRw).trans hR0;have hG1:=hr.lt
 go_wp2_with fail
 refine (l20Work_any w0.heap.size w0.heap.size 0 w1 hr (Nat.le_refl _) (by omega)).mono ?_;rintro e w2 ⟨s,A1,n1,c1',gi,A2,nr,c2',rs,A7,k7,c7,m7,rfl,s2,s4,hrd,hn16,hlo,hR,hl,hnr,ho,hk,hsm,hr2,hg⟩;have h12:=hg.size;have hs01:=hb.size
 have hRG:w.heap.size≠w0.heap.size:=by omega
 have hx0:=pbox_new w2 s A1 n1 c1' A2 nr c2' 26;have hbA:Below w2.heap.size w2 (w2.alloc (.cells #[.int .i64 s,.slice A1 n1 c1',.slice A2 nr c2'] 26)):=(Below.refl _ _).alloc (Nat.le_refl _) _
 have hsA:(w2.alloc (.cells #[.int .i64 s,.slice A1 n1 c1',.slice A2 nr c2'] 26)).heap.size=w2.heap.size+1:=by simp
 have hrA:=hr2.alloc (show w0.heap.size<=w2.heap.size by omega) (.cells #[.int .i64 s,.slice A1 n1 c1',.slice A2 nr c2'] 26);have hgA:w1.grownBy (w2.alloc (.cells #[.int .i64 s,.slice A1 n1 c1',.slice A2 nr c2'] 26)) (some w0.heap.size):=only_alloc hg _;have hrdA:=hrd.below hbA;have hRA:=hR.below hbA;have hoA:=ho.below hbA;obtain ⟨W,hW2⟩:∃ W,w2.alloc (.cells #[.int .i64 s,.slice A1 n1 c1',.slice A2 nr c2'] 26)=W:=⟨_,rfl⟩;rw [hW2] at hx0 hsA hrA hgA hrdA hRA hoA;have HW2:=Lib.hid hW2;have hRowW:W.heap[w.heap.size]? =some (.cells #[.int .i64 0,.slice none 0 0,.slice none 0 0] 26):=(hgA.block w.heap.size (by omega) (fun e=>hRG (Option.some.inj e))).trans hR1
 have HX:=Lib.hid (fun w' (hr:MwR w0.heap.size w.heap.size W w')=>show PBox w' w2.heap.size s A1 n1 c1' A2 nr c2'/\∃ cs:Array Value,w'.heap[w.heap.size]? =some (.cells cs 26)/\cs.size=3 from
  ⟨⟨(World.cell?_of_block (a:=⟨w2.heap.size,0,none⟩) (hr.same w2.heap.size (by omega) (by omega) (by omega))).trans hx0.1,(World.cell?_of_block (a:=⟨w2.heap.size,1,none⟩) (hr.same w2.heap.size (by omega) (by omega) (by omega))).trans hx0.2.1,(World.cell?_of_block (a:=⟨w2.heap.size,2,none⟩) (hr.same w2.heap.size (by omega) (by omega) (by omega))).trans hx0.2.2⟩,hr.row _ hRowW rfl⟩)
 have hbW:Below w.heap.size w W:=(hb00.trans (hb.mono hb00.size)).trans ⟨hgA.os,hgA.tape,hgA.output,hgA.size,fun j hj=>hgA.block j (by omega) (fun e=>by have:=Option.some.inj e;omega)⟩
 have HF:=Lib.hid (fun Y (v:Int) (v0:0<=v) (v6:v<=5) (hr:MwR w0.heap.size w.heap.size W Y) (_:Y.heap[w.heap.size]? =some (.cells #[.int .i64 s,.slice A1 n1 c1',.slice A2 nr c2'] 26))=>show DrawnA w (.returned (.tuple #[.agg #[.int .i64 s,.slice A1 n1 c1',.slice A2 nr c2'],.slice A7 k7 c7,.int .i64 v])) Y from by
  have hsz:=hr.size;have hbY:Below w.heap.size W Y:=⟨hr.os,hr.tape,hr.output,hr.size,fun j hj=>hr.same j (by omega) (by omega) (by omega)⟩
  exact ⟨s,A1,n1,c1',gi,A2,nr,c2',rs,A7,k7,c7,m7,v,rfl,s2,s4,(rd_mw hrdA hr (fun b off e=>by have:=hlo b off e;omega) (by omega)).more (by omega),hn16,(owR_mw hRA hr (by omega) (by omega)).mono (by omega),hl,hnr,(ow_mw hoA hr (by omega) (by omega)).mono (by omega),hk,hsm,v0,v6,hbW.trans hbY⟩)
 have hrD:Rdr W.drew w0.heap.size w0.heap.size 900:=(hrA.below ((Below.refl _ _).drew) (by omega)).more (by omega);obtain ⟨z0,z1,z2⟩:=id hx0;clear hrd hR hlo hr hr2 hg hW2 hrA hgA hrdA hRA hx0 hbA ho hoA
 go_wp2
 rw [HW2.out];refine wp_region_dsU [15,16,17,18,19,20,21,22,23,24,25,26,27,0,3,4] [13] (fun j=>MwG w0.heap.size w.heap.size #[.int .i64 s,.slice A1 n1 c1',.slice A2 nr c2'] (.slice A7 k7 c7) (j)) (MwR w0.heap.size w.heap.size) (fun i w1 w2=>MwR w0.heap.size w.heap.size w1 w2/\(i≠13->w2.heap[w.heap.size]? =w1.heap[w.heap.size]?)) (fun j w'=>(j=3->Rdr w' w0.heap.size w0.heap.size 900)/\(j=8->Rdr w' w0.heap.size w0.heap.size (900+1))) (fun j=>⟨fun _=>hrD.more (by omega),fun _=>hrD.more (by omega)⟩) ⟨rfl,rfl,rfl,Nat.le_refl _,fun _ _ _ _=>rfl,fun cs h1 h2=>⟨cs,h1,h2⟩⟩ (fun _ _ h h'=>h.trans h') (by kernel_rfl) (by kernel_rfl) (by simp) ?hns (fun j i v w1 w2 hji _ he hg=>mwG_eff (fun e=>he.2 (fun e2=>hji (e.trans e2.symm))) he.1 hg) ?step ?fin
 case hns=>
  intro i hi v v' w' hg
  obtain rfl:i=13:=by simpa using hi
  exact hg
 case step=>
  intro i o a w' K D hD hcl hi hoo hrel hfr hpre hC hK;have eB:a.eval (.tmp 6)=.pointer (some ⟨w2.heap.size,0,none⟩):=hfr 6 (by simp);have eG:a.eval (.tmp 5)=.pointer (some ⟨w0.heap.size,0,none⟩):=hfr 5 (by simp);have eR:a.eval (.tmp 2)=.pointer (some ⟨w.heap.size,0,none⟩):=hfr 2 (by simp);have eM:a.eval (.tmp 7)=.slice A7 k7 c7:=hfr 7 (by simp);obtain ⟨⟨k0,k1,k2⟩,hrow⟩:=HX.out w' hrel;have hsz:=hrel.size
  have hRw':w.heap.size<w'.heap.size:=by omega
  have hkeep:∀ (v:Value),MwG w0.heap.size w.heap.size #[.int .i64 s,.slice A1 n1 c1',.slice A2 nr c2'] (.slice A7 k7 c7) (i) v w'->K (a.put o.dst v) w':=fun v hv=>hK v w' (mwR_refl w') ⟨mwR_refl w',fun _=>rfl⟩ (fun j _ _ h=>h) hv
  have hiN:i<16:=hi
  have:i=0\/i=1\/i=2\/i=3\/i=4\/i=5\/i=6\/i=7\/i=8\/i=9\/i=10\/i=11\/i=12\/i=13\/i=14\/i=15:=by omega
  rcases this with rfl|rfl|rfl|rfl|rfl|rfl|rfl|rfl|rfl|rfl|rfl|rfl|rfl|rfl|rfl|rfl
  all_goals
   simp only [List.getElem?_toArray,List.getElem?_cons_zero,List.getElem?_cons_succ,Option.some.injEq] at hoo;subst hoo
  ·refine oper_val (v:=.agg #[.int .i64 s,.slice A1 n1 c1',.slice A2 nr c2']) (w':=w') ?_ (hkeep _ rfl);unfold execOp;simp only [eB]
   go_simp
  ·refine oper_val (v:=.slice A7 k7 c7) (w':=w') ?_ (hkeep _ rfl);unfold execOp;simp only [eM]
   go_simp
  ·refine oper_val (v:=.pointer (some ⟨w0.heap.size,0,none⟩)) (w':=w') ?_ (hkeep _ rfl);unfold execOp;simp only [eG]
   go_simp
  ·have p2:a.eval (.tmp 17)=.pointer (some ⟨w0.heap.size,0,none⟩):=hpre ⟨2,.data⟩ (by simp) rfl;refine oper_call (f:=61) (args:= #[.pointer (some ⟨w0.heap.size,0,none⟩),.int .i64 4]) ?_ (pick_any w0.heap.size w0.heap.size 900 4 w' (hC.1 rfl) (Nat.le_refl _) (by omega)) ?_
   ·unfold execOp
    go_simp
    exact by simpa [Act.eval] using p2
   ·rintro e w8 ⟨v,rfl,⟨v0,v1,_⟩,hr8,hg8⟩;exact ⟨_,rfl,hK _ w8 (mwR_grown hRG hg8) ⟨mwR_grown hRG hg8,fun _=>hg8.block _ hRw' (fun e=>hRG (Option.some.inj e))⟩ (fun j hj hd h=>⟨fun e=>absurd e hj,fun _=>hr8⟩) ⟨v,rfl,v0,v1 (by omega)⟩⟩
  ·obtain ⟨x,p3,x0,x4⟩:∃ x:Int,a.eval (.tmp 18)=.int .i64 x/\0<=x/\x<4:=hpre ⟨3,.data⟩ (by simp) rfl;have hwr:IntKind.i64.wrap (1+x)=1+x:=IntWalk.i64_in _ (by omega);refine oper_val (v:=.int .i64 (1+x)) (w':=w') ?_ (hkeep _ ⟨1+x,rfl,by omega,by omega⟩);unfold execOp;simp only [p3]
   go_simp
  ·obtain ⟨x,p4,x1,x4⟩:∃ x:Int,a.eval (.tmp 19)=.int .i64 x/\1<=x/\x<=4:=hpre ⟨4,.data⟩ (by simp) rfl;have p4':a.tmps[19]?.getD undef=.int .i64 x:=(by simpa [Act.eval] using p4);refine oper_val (v:=.slice (some ⟨w'.heap.size,0,none⟩) 4 4) (w':=w'.alloc (.cells #[.int .i64 x,.int .i64 4,.int .i64 0,.int .i64 5] 3)) ?_ (hK _ _ (mwR_alloc hRw' _) ⟨mwR_alloc hRw' _,fun _=>heap_alloc_old hRw' _⟩ (fun j hj hd h=>⟨fun e=>(h.1 e).alloc (by omega) _,fun e=>(h.2 e).alloc (by omega) _⟩) ⟨w'.heap.size,x,rfl,heap_alloc_new _ _,x1,x4,by omega,by omega⟩);unfold execOp
   go_simp
  ·refine oper_val (v:=.slice (some ⟨w'.heap.size,0,none⟩) 7 7) (w':=w'.alloc (.cells #[.int .i64 0,.int .i64 0,.int .i64 0,.int .i64 1,.int .i64 1,.int .i64 2,.int .i64 3] 3)) ?_ (hK _ _ (mwR_alloc hRw' _) ⟨mwR_alloc hRw' _,fun _=>heap_alloc_old hRw' _⟩ (fun j hj hd h=>⟨fun e=>(h.1 e).alloc (by omega) _,fun e=>(h.2 e).alloc (by omega) _⟩) ⟨w'.heap.size,rfl,heap_alloc_new _ _,by omega,by omega⟩);unfold execOp
   go_simp
  ·refine oper_val (v:=.pointer (some ⟨w0.heap.size,0,none⟩)) (w':=w') ?_ (hkeep _ rfl);unfold execOp;simp only [eG]
   go_simp
  ·have p7:a.eval (.tmp 22)=.pointer (some ⟨w0.heap.size,0,none⟩):=hpre ⟨7,.data⟩ (by simp) rfl;have d3:D 3:=hD ⟨3,.chain⟩ (by simp) rfl;refine oper_call (f:=61) (args:= #[.pointer (some ⟨w0.heap.size,0,none⟩),.int .i64 7]) ?_ (pick_any w0.heap.size w0.heap.size (900+1) 7 w' (hC.2 rfl) (Nat.le_refl _) (by omega)) ?_
   ·unfold execOp
    go_simp
    exact by simpa [Act.eval] using p7
   ·rintro e w8 ⟨v,rfl,⟨v0,v1,_⟩,hr8,hg8⟩;exact ⟨_,rfl,hK _ w8 (mwR_grown hRG hg8) ⟨mwR_grown hRG hg8,fun _=>hg8.block _ hRw' (fun e=>hRG (Option.some.inj e))⟩ (fun j hj hd h=>⟨fun e=>absurd (by rw [e];exact d3) hd,fun e=>absurd e hj⟩) ⟨v,rfl,v0,v1 (by omega)⟩⟩
  ·obtain ⟨g,p6,q6,g1,g2⟩:∃ g,a.eval (.tmp 21)=.slice (some ⟨g,0,none⟩) 7 7/\w'.heap[g]? =some (.cells #[.int .i64 0,.int .i64 0,.int .i64 0,.int .i64 1,.int .i64 1,.int .i64 2,.int .i64 3] 3)/\g≠w0.heap.size/\g≠w.heap.size:=hpre ⟨6,.data⟩ (by simp) rfl;obtain ⟨x,p8,x0,x7⟩:∃ x:Int,a.eval (.tmp 23)=.int .i64 x/\0<=x/\x<7:=hpre ⟨8,.data⟩ (by simp) rfl;obtain ⟨u,rfl⟩:=Int.eq_ofNat_of_zero_le x0;refine oper_val (v:=.pointer (some ⟨g,u,none⟩)) (w':=w') ?_ (hkeep _ ⟨g,u,rfl,q6,by omega,g1,g2⟩);unfold execOp;simp only [p6,p8]
   go_simp
  ·obtain ⟨g,u,p9,q9,u7,g1,g2⟩:∃ (g u:Nat),a.eval (.tmp 24)=.pointer (some ⟨g,u,none⟩)/\w'.heap[g]? =some (.cells #[.int .i64 0,.int .i64 0,.int .i64 0,.int .i64 1,.int .i64 1,.int .i64 2,.int .i64 3] 3)/\u<7/\g≠w0.heap.size/\g≠w.heap.size:=hpre ⟨9,.data⟩ (by simp) rfl;obtain ⟨z,hz,z0,z3⟩:=lit7_cell q9 u7;refine oper_val (v:=.int .i64 z) (w':=w') ?_ (hkeep _ ⟨z,rfl,z0,z3⟩);unfold execOp;simp only [p9]
   go_simp
  ·obtain ⟨g,x,p5,q5,x1,x4,g1,g2⟩:∃ (g:Nat) (x:Int),a.eval (.tmp 20)=.slice (some ⟨g,0,none⟩) 4 4/\w'.heap[g]? =some (.cells #[.int .i64 x,.int .i64 4,.int .i64 0,.int .i64 5] 3)/\1<=x/\x<=4/\g≠w0.heap.size/\g≠w.heap.size:=hpre ⟨5,.data⟩ (by simp) rfl;obtain ⟨z,p10,z0,z3⟩:∃ x:Int,a.eval (.tmp 25)=.int .i64 x/\0<=x/\x<=3:=hpre ⟨10,.data⟩ (by simp) rfl;obtain ⟨u,rfl⟩:=Int.eq_ofNat_of_zero_le z0;have hu4:(u:Int)<4:=(by omega);refine oper_val (v:=.pointer (some ⟨g,u,none⟩)) (w':=w') ?_ (hkeep _ ⟨g,u,x,rfl,q5,x1,x4,by omega,g1,g2⟩)
   unfold execOp;simp only [p5,p10]
   go_simp
  ·obtain ⟨g,u,x,p11,q11,x1,x4,u4,g1,g2⟩:∃ (g u:Nat) (x:Int),a.eval (.tmp 26)=.pointer (some ⟨g,u,none⟩)/\w'.heap[g]? =some (.cells #[.int .i64 x,.int .i64 4,.int .i64 0,.int .i64 5] 3)/\1<=x/\x<=4/\u<4/\g≠w0.heap.size/\g≠w.heap.size:=hpre ⟨11,.data⟩ (by simp) rfl;obtain ⟨z,hz,z0,z5⟩:=lit4_cell q11 u4 x1 x4;refine oper_val (v:=.int .i64 z) (w':=w') ?_ (hkeep _ ⟨z,rfl,z0,z5⟩);unfold execOp;simp only [p11]
   go_simp
  ·have p0:a.eval (.tmp 15)=.agg #[.int .i64 s,.slice A1 n1 c1',.slice A2 nr c2']:=hpre ⟨0,.data⟩ (by simp) rfl;have d8:D 8:=hD ⟨8,.chain⟩ (by simp) rfl;have d3:D 3:=hcl 8 _ rfl d8 ⟨3,.chain⟩ (by simp) rfl;obtain ⟨cs,hcs,hc3⟩:=hrow;have hst:=run_storeVar_row (P:=Tryz.prog) w' w.heap.size 26 26 cs #[.int .i64 s,.slice A1 n1 c1',.slice A2 nr c2'] hcs Hi3.out hc3 (by simp [Value.oneCell']);refine oper_skip (w':=w'.setRow w.heap.size #[.int .i64 s,.slice A1 n1 c1',.slice A2 nr c2']) ?_ (hK undef _ (mwR_row hcs hc3 rfl) ⟨mwR_row hcs hc3 rfl,fun e=>absurd rfl e⟩ (fun j hj hd h=>⟨fun e=>absurd (by rw [e];exact d3) hd,fun e=>absurd (by rw [e];exact d8) hd⟩) (setRow_heap (w:=w') w.heap.size _ _ _ _ hcs))
   unfold execOp;simp only [eR,p0,Instr.storeAt,Instr.sureAddr,Sem.run_bind,Sem.run_pure,Result.andThen_ok,hst]
  ·have p1:a.eval (.tmp 16)=.slice A7 k7 c7:=hpre ⟨1,.data⟩ (by simp) rfl;refine oper_val (v:=.slice A7 k7 c7) (w':=w') ?_ (hkeep _ rfl);unfold execOp;simp only [p1]
   go_simp
  ·obtain ⟨x,p12,x0,x5⟩:∃ x:Int,a.eval (.tmp 27)=.int .i64 x/\0<=x/\x<=5:=hpre ⟨12,.data⟩ (by simp) rfl;refine oper_val (v:=.int .i64 x) (w':=w') ?_ (hkeep _ ⟨x,rfl,x0,x5⟩);unfold execOp;simp only [p12]
   go_simp
 case fin=>
  intro a w5 hrel hdef htm hpre;have g0:a.tmps.getD 15 undef=.agg #[.int .i64 s,.slice A1 n1 c1',.slice A2 nr c2']:=hpre 0 (by simp);have g1:a.tmps.getD 16 undef=.slice A7 k7 c7:=hpre 1 (by simp);have g2:a.tmps.getD 17 undef=.pointer (some ⟨w0.heap.size,0,none⟩):=hpre 2 (by simp);obtain ⟨x3,g3,_⟩:∃ x:Int,a.tmps.getD 18 undef=.int .i64 x/\_:=hpre 3 (by simp);obtain ⟨x4,g4,_⟩:∃ x:Int,a.tmps.getD 19 undef=.int .i64 x/\_:=hpre 4 (by simp);obtain ⟨b5,y5,g5,_⟩:∃ (g:Nat) (x:Int),a.tmps.getD 20 undef=.slice (some ⟨g,0,none⟩) 4 4/\_:=hpre 5 (by simp)
  obtain ⟨b6,g6,_⟩:∃ (g:Nat),a.tmps.getD 21 undef=.slice (some ⟨g,0,none⟩) 7 7/\_:=hpre 6 (by simp);have g7:a.tmps.getD 22 undef=.pointer (some ⟨w0.heap.size,0,none⟩):=hpre 7 (by simp);obtain ⟨x8,g8,_⟩:∃ x:Int,a.tmps.getD 23 undef=.int .i64 x/\_:=hpre 8 (by simp);obtain ⟨b9,y9,g9,_⟩:∃ (g u:Nat),a.tmps.getD 24 undef=.pointer (some ⟨g,u,none⟩)/\_:=hpre 9 (by simp);obtain ⟨x10,g10,_⟩:∃ x:Int,a.tmps.getD 25 undef=.int .i64 x/\_:=hpre 10 (by simp);obtain ⟨b11,y11,z11,g11,_⟩:∃ (g u:Nat) (x:Int),a.tmps.getD 26 undef=.pointer (some ⟨g,u,none⟩)/\_:=hpre 11 (by simp)
  obtain ⟨x12,g12,_⟩:∃ x:Int,a.tmps.getD 27 undef=.int .i64 x/\_:=hpre 12 (by simp);have hst:w5.heap[w.heap.size]? =some (.cells #[.int .i64 s,.slice A1 n1 c1',.slice A2 nr c2'] 26):=hpre 13 (by simp);have g14:a.tmps.getD 3 undef=.slice A7 k7 c7:=hpre 14 (by simp);obtain ⟨v,g15,v0,v5⟩:∃ x:Int,a.tmps.getD 4 undef=.int .i64 x/\0<=x/\x<=5:=hpre 15 (by simp);obtain ⟨xx,hxx⟩:∃ x,a.tmps.getD 0 undef=x:=⟨_,rfl⟩;have key:=htm;simp only [List.foldl_cons,List.foldl_nil,g0,g1,g2,g3,g4,g5,g6,g7,g8,g9,g10,g11,g12,g14,g15,hxx,List.setIfInBounds_toArray,List.set_cons_succ,List.set_cons_zero] at key
  clear htm hpre g0 g1 g2 g3 g4 g5 g6 g7 g8 g9 g10 g11 g12 g14 g15 hxx;obtain ⟨tm,df⟩:=a
  dsimp only at key hdef
  subst key hdef
  go_wp2
  exact bodyPost_ret (v:=.tuple #[.agg #[.int .i64 s,.slice A1 n1 c1',.slice A2 nr c2'],.slice A7 k7 c7,.int .i64 v]) (results_c2 (by rfl) _ _ w.heap.size 26 _ (0,0) _ _ _ rfl rfl rfl hst Tryz.underlying26 rfl (Hi.out _ _ _ _ _ _ _)) rfl (HF.out w5 v v0 v5 hrel hst)
structure Aside (D:Nat) (X Y:World):Prop where
 os:Y.os=X.os
 tape:Y.tape=X.tape
 output:Y.output=X.output
 size:X.heap.size<=Y.heap.size
 block:∀ k,k<X.heap.size->k≠D->k≠D+1->Y.heap[k]? =X.heap[k]?
theorem Aside.of_below {D:Nat} {X Y:World} (h:Below X.heap.size X Y):Aside D X Y:=⟨h.os,h.tape,h.output,h.size,fun k hk _ _=>h.block k hk⟩
theorem Aside.of_put {D l:Nat} {X:World} (o:Obj) (h:l=D\/l=D+1):Aside D X (X.putObj l o):=
 ⟨rfl,rfl,rfl,by simp,fun k _ h1 h2=>World.putObj_heap_other (by omega)⟩
theorem Aside.below {D:Nat} {X Y:World} (h:Aside D X Y) (hD:D<=X.heap.size):Below D X Y:=⟨h.os,h.tape,h.output,h.size,fun k hk=>h.block k (by omega) (by omega) (by omega)⟩
def SeqT (P:Program) (gf:Nat) (lb:Array Value) (Base:World->Prop) (rounds:List (Nat×List Int)):Prop:=
 ∀ (l:Nat) (J:List (Nat×List Int)->World->Prop) (Jx:World->Prop) (W:World),
   (∀ pre X,J pre X->Base X)->
   (∀ pre X Y,J pre X->Below X.heap.size X Y->J pre Y)->
   (∀ X Y,Jx X->Below X.heap.size X Y->Jx Y)->
   (∀ pre t x X b n c,J pre X->(∃ tl,rounds=pre++(t,x)::tl)->W.heap.size<=b->Ow X W.heap.size (some ⟨b,0,none⟩) n c x->
     YieldAt Fence.wide 0 P l #[.int .i64 (t:Nat),.slice (some ⟨b,0,none⟩) n c] X fun e Y=>X.heap.size<=Y.heap.size/\Y.heap[b]? =X.heap[b]? /\((e=.returned (.bool true)/\J (pre++[(t,x)]) Y)\/(e=.returned (.bool false)/\Jx Y)))->
   J [] W->
   Calls P gf (#[.func (.yield l) #[] #[]]++lb) W fun e Y=>(∃ v,e=.returned v)/\(J rounds Y\/Jx Y)
def rndPost (D b:Nat) (I:List (Nat×List Int)->World->Prop) (Ix:Code->World->Prop) (xs:List (Nat×List Int)) (X:World):Exit->Act->World->Prop
 |.normal,_,Y=>(X.heap.size<=Y.heap.size/\∀ k,k=b\/k=D\/k=D+1->Y.heap[k]? =X.heap[k]?)/\I xs Y
 |.ret,_,Y=>(X.heap.size<=Y.heap.size/\∀ k,k=b\/k=D\/k=D+1->Y.heap[k]? =X.heap[k]?)/\Ix .ret Y
 |.exit id,_,Y=>(X.heap.size<=Y.heap.size/\∀ k,k=b\/k=D\/k=D+1->Y.heap[k]? =X.heap[k]?)/\Ix (.exit id) Y
 |.goto t,_,Y=>(X.heap.size<=Y.heap.size/\∀ k,k=b\/k=D\/k=D+1->Y.heap[k]? =X.heap[k]?)/\Ix (.goto t) Y
 |.panic _,_,_=>False
 |.outgrown,_,_=>False
theorem range_rounds {P:Program} (m:Nat) {g:Operand} {ps:Array Tmp} {assign body:Code} {Q:Exit->Act->World->Prop} {a:Act} {w:World}
 {gf:Nat} {lb:Array Value} (hg:a.eval g=.func (.func gf) #[] lb) (eg:∀ args w,(callFunc gf args).run P w=.ok (.enter gf args) w) (hps:ps.size=2)
 {Base:World->Prop} {rounds:List (Nat×List Int)} (hseq:SeqT P gf lb Base rounds)
 (I:List (Nat×List Int)->World->Prop) (Ix:Code->World->Prop) (hIb:∀ pre X,I pre X->Base X)
 (hI:∀ pre X Y,I pre X->Aside w.heap.size X Y->I pre Y) (hIx:∀ c X Y,Ix c X->Aside w.heap.size X Y->Ix c Y) (h0:I [] w) (a₁:Value->Value->Act)
 (hassign:∀ (l:Nat) (u v:Value) (W:World) (K:Act->World->Prop),K (a₁ u v) W->
   assign.wpIn (Fence.wide.inRound l) m P (Exit.then K (fun _ _ _=>False)) { tmps:=(ps.zip #[u,v]).foldl (fun t (p,v)=>t.setIfInBounds p v) a.tmps,defers:=[] } W)
 (hbody:∀ (l:Nat) (pre:List (Nat×List Int)) (t:Nat) (x:List Int) (X:World) (b n c:Nat),I pre X->(∃ tl,rounds=pre++(t,x)::tl)->w.heap.size+2<=b->w.heap.size+2<=X.heap.size->Ow X (w.heap.size+2) (some ⟨b,0,none⟩) n c x->(∃ o,X.heap[w.heap.size]? =some (.deferred o))->(∃ o,X.heap[w.heap.size+1]? =some (.loop o))->
   body.wpIn (Fence.wide.inRound l) m P (rndPost w.heap.size b I Ix (pre++[(t,x)]) X) (a₁ (.int .i64 (t:Nat)) (.slice (some ⟨b,0,none⟩) n c)) X)
 (hdone:∀ (D:Nat) (W:World),w.heap.size<=D->I rounds W->W.heap[D]? =some (.deferred (some []))->Q .normal { a with defers:={ target:=.collected D,args:= #[] }::a.defers } W)
 (hstop:∀ (D:Nat) (c:Code) (W:World),w.heap.size<=D->Ix c W->W.heap[D]? =some (.deferred (some []))->c.wpIn Fence.wide m P Q { a with defers:={ target:=.collected D,args:= #[] }::a.defers } W):
 (Code.rangeFunc g ps assign body).wpIn Fence.wide m P Q a w:=by
 refine wpIn_rangeFunc ?_;intro fn _
 obtain ⟨rec,hrec⟩:∃ rec:LoopState->Option Code->Loop,rec=fun st pe=>{ state:=st,pending:=pe,fn,tmps:=a.tmps,params:=ps,assign,body,defers:=w.heap.size }:=⟨_,rfl⟩
 obtain ⟨W1,hW1⟩:∃ W1,(w.alloc (.deferred (some []))).alloc (.loop (rec .ready none))=W1:=⟨_,rfl⟩
 have hs1:W1.heap.size=w.heap.size+2:=by rw [<- hW1];simp
 have hL1:W1.heap[w.heap.size+1]? =some (.loop (rec .ready none)):=by
  rw [<- hW1];have:=World.alloc_heap_new (w.alloc (.deferred (some []))) (.loop (rec .ready none));rwa [World.size_alloc] at this
 have hK1:W1.heap[w.heap.size]? =some (.deferred (some [])):=by
  rw [<- hW1];exact (Below.heap_alloc _ _ _ (by simp)).trans (World.alloc_heap_new w _)
 have hb1:Below w.heap.size w W1:=by
  rw [<- hW1];exact ((Below.refl _ w).alloc (Nat.le_refl _) _).alloc (by simp) _
 refine ⟨w.heap.size+1,[{ target:=.collected w.heap.size,args:= #[] }],W1,{ target:=.fn (.func gf) lb,args:= #[.func (.yield (w.heap.size+1)) #[] #[]] },W1,gf,
  #[.func (.yield (w.heap.size+1)) #[] #[]]++lb,W1,?_,?_,?_,?_,fun h=>by simp [Fence.wide] at h,?_⟩
 ·rw [<- hW1,hrec];exact run_enterLoop_outer _ _ _ _ _
 ·simp only [resolve,hg]
  simp [go_sem]
 ·intro f' _;trivial
 ·simp [invoke,go_sem,eg]
 ·refine callsIn_wide.2 ((hseq (w.heap.size+1)
   (fun pre W=>I pre W/\W.heap[w.heap.size+1]? =some (.loop (rec .ready none))/\W.heap[w.heap.size]? =some (.deferred (some [])))
   (fun W=>∃ c,Ix c W/\W.heap[w.heap.size+1]? =some (.loop (rec .done (some c)))/\W.heap[w.heap.size]? =some (.deferred (some [])))
   W1 (fun pre X h=>hIb pre X h.1)
   (fun pre X Y hs hb=>⟨hI pre X Y hs.1 (Aside.of_below hb),(hb.block _ (Array.getElem?_eq_some_iff.1 hs.2.1).1).trans hs.2.1,(hb.block _ (Array.getElem?_eq_some_iff.1 hs.2.2).1).trans hs.2.2⟩)
   (fun X Y hs hb=>by
     obtain ⟨c,h1,h2,h3⟩:=hs
     exact ⟨c,hIx c X Y h1 (Aside.of_below hb),(hb.block _ (Array.getElem?_eq_some_iff.1 h2).1).trans h2,(hb.block _ (Array.getElem?_eq_some_iff.1 h3).1).trans h3⟩)
   ?_ ⟨hI [] w W1 h0 ⟨hb1.os,hb1.tape,hb1.output,hb1.size,fun k hk _ _=>hb1.block k hk⟩,hL1,hK1⟩).mono ?_)
  ·rintro pre t x X b n c ⟨hi,hl,hk⟩ hx hbw hown;have hlt:w.heap.size+1<X.heap.size:=(Array.getElem?_eq_some_iff.1 hl).1;have hy:=run_yield (P:=P) (args:= #[.int .i64 (t:Nat),.slice (some ⟨b,0,none⟩) n c]) hl (by rw [hrec];simp [hps]);rw [hrec] at hy;refine ⟨fn,_,assign,body,hy,roundIn_any (m:=m) (roundIn_of_wpIn trivial (hassign _ (.int .i64 (t:Nat)) (.slice (some ⟨b,0,none⟩) n c) X _ ⟨_,run_beginRound hl (by rw [hrec]),?_⟩))⟩;obtain ⟨X2,hX2⟩:∃ X2,X.putObj (w.heap.size+1) (.loop { rec .ready none with state:=.busy })=X2:=⟨_,rfl⟩;have hl2:X2.heap[w.heap.size+1]? =some (.loop { rec .ready none with state:=.busy }):=(by rw [<- hX2];exact World.putObj_heap_same hlt)
   have hk2:X2.heap[w.heap.size]? =some (.deferred (some [])):=(by rw [<- hX2];exact (World.putObj_heap_other (by omega)).trans hk);have hA2:Aside w.heap.size X X2:=(by rw [<- hX2];exact Aside.of_put _ (.inr rfl));have hb2:X2.heap[b]? =X.heap[b]? :=(by rw [<- hX2];exact World.putObj_heap_other (by omega));have hown2:Ow X2 (w.heap.size+2) (some ⟨b,0,none⟩) n c x:=(by rw [<- hs1];exact hown.same hb2);have hsz2:=hA2.size;rw [hX2];refine wpIn_mono (hbody _ pre t x X2 b n c (hI _ _ _ hi hA2) hx (by omega) (by omega) hown2 ⟨_,hk2⟩ ⟨_,hl2⟩) ?_
   have fin:∀ (jump:Option Code) (W3:World),(X2.heap.size<=W3.heap.size/\∀ k,k=b\/k=w.heap.size\/k=w.heap.size+1->W3.heap[k]? =X2.heap[k]?)->
       (Instr.endRound (w.heap.size+1) jump).run P W3=.ok (.bool jump.isNone) (W3.putObj (w.heap.size+1) (.loop (rec (if jump.isNone then .ready else .done) jump)))/\
       Aside w.heap.size W3 (W3.putObj (w.heap.size+1) (.loop (rec (if jump.isNone then .ready else .done) jump)))/\
       X.heap.size<=(W3.putObj (w.heap.size+1) (.loop (rec (if jump.isNone then .ready else .done) jump))).heap.size/\
       (W3.putObj (w.heap.size+1) (.loop (rec (if jump.isNone then .ready else .done) jump))).heap[b]? =X.heap[b]? /\
       (W3.putObj (w.heap.size+1) (.loop (rec (if jump.isNone then .ready else .done) jump))).heap[w.heap.size+1]? =some (.loop (rec (if jump.isNone then .ready else .done) jump))/\
       (W3.putObj (w.heap.size+1) (.loop (rec (if jump.isNone then .ready else .done) jump))).heap[w.heap.size]? =some (.deferred (some [])):=fun jump W3 hk3=>by
    have hl3:=(hk3.2 (w.heap.size+1) (by omega)).trans hl2;have hlt3:=(Array.getElem?_eq_some_iff.1 hl3).1;have:=run_endRound (P:=P) jump hl3;rw [hrec] at this ⊢;exact ⟨this,Aside.of_put _ (.inr rfl),by have:=hk3.1;simp;omega,(World.putObj_heap_other (by omega)).trans ((hk3.2 b (.inl rfl)).trans hb2),World.putObj_heap_same hlt3,(World.putObj_heap_other (by omega)).trans ((hk3.2 _ (.inr (.inl rfl))).trans hk2)⟩
   rintro e a3 W3 hp
   cases e with
   |normal=>
    obtain ⟨hk3,hi3⟩:=hp;obtain ⟨hr,hb4,hm4,hm5,hl4,hk4⟩:=fin none W3 hk3;exact ⟨_,_,hr,hm4,hm5,.inl ⟨rfl,hI _ _ _ hi3 hb4,hl4,hk4⟩⟩
   |ret=>
    obtain ⟨hk3,hi3⟩:=hp;obtain ⟨hr,hb4,hm4,hm5,hl4,hk4⟩:=fin (some .ret) W3 hk3;exact ⟨_,_,hr,hm4,hm5,.inr ⟨rfl,.ret,hIx _ _ _ hi3 hb4,hl4,hk4⟩⟩
   |exit id=>
    obtain ⟨hk3,hi3⟩:=hp;obtain ⟨hr,hb4,hm4,hm5,hl4,hk4⟩:=fin (some (.exit id)) W3 hk3;exact ⟨_,_,hr,hm4,hm5,.inr ⟨rfl,.exit id,hIx _ _ _ hi3 hb4,hl4,hk4⟩⟩
   |goto t'=>
    obtain ⟨hk3,hi3⟩:=hp;obtain ⟨hr,hb4,hm4,hm5,hl4,hk4⟩:=fin (some (.goto t')) W3 hk3;exact ⟨_,_,hr,hm4,hm5,.inr ⟨rfl,.goto t',hIx _ _ _ hi3 hb4,hl4,hk4⟩⟩
   |panic ch=>exact hp.elim
   |outgrown=>exact hp.elim
  ·rintro e W2 ⟨⟨v,rfl⟩,(⟨hi,hl,hk⟩|⟨c,hi,hl,hk⟩)⟩
   ·exact ⟨none,_,by have:=run_endLoop (P:=P) hl (by rw [hrec];simp);rw [hrec] at this;exact this,hdone _ _ (Nat.le_refl _) (hI _ _ _ hi (Aside.of_put _ (.inr rfl))) ((World.putObj_heap_other (by omega)).trans hk)⟩
   ·exact ⟨some c,_,by have:=run_endLoop (P:=P) hl (by rw [hrec];simp);rw [hrec] at this;exact this,hstop _ c _ (Nat.le_refl _) (hIx _ _ _ hi (Aside.of_put _ (.inr rfl))) ((World.putObj_heap_other (by omega)).trans hk)⟩
theorem range_rounds2 {P:Program} (m:Nat) {g:Operand} {p p' q:Nat} {assign body:Code} {Q:Exit->Act->World->Prop} {a:Act} {w:World}
 {gf:Nat} {lb:Array Value} (hg:a.eval g=.func (.func gf) #[] lb) (eg:∀ args w,(callFunc gf args).run P w=.ok (.enter gf args) w)
 {Base:World->Prop} {rounds:List (Nat×List Int)} (hseq:SeqT P gf lb Base rounds)
 (I:List (Nat×List Int)->World->Prop) (Ix:Code->World->Prop) (hIb:∀ pre X,I pre X->Base X)
 (hI:∀ pre X Y,I pre X->Aside w.heap.size X Y->I pre Y) (hIx:∀ c X Y,Ix c X->Aside w.heap.size X Y->Ix c Y) (h0:I [] w)
 (hassign:∀ (l:Nat) (u v:Value) (W:World) (K:Act->World->Prop),K { tmps:=((a.tmps.setIfInBounds p u).setIfInBounds p' v).setIfInBounds q v,defers:=[] } W->
   assign.wpIn (Fence.wide.inRound l) m P (Exit.then K (fun _ _ _=>False)) { tmps:=(a.tmps.setIfInBounds p u).setIfInBounds p' v,defers:=[] } W)
 (hbody:∀ (l:Nat) (pre:List (Nat×List Int)) (t:Nat) (x:List Int) (X:World) (b n c:Nat),I pre X->(∃ tl,rounds=pre++(t,x)::tl)->w.heap.size+2<=b->w.heap.size+2<=X.heap.size->Ow X (w.heap.size+2) (some ⟨b,0,none⟩) n c x->(∃ o,X.heap[w.heap.size]? =some (.deferred o))->(∃ o,X.heap[w.heap.size+1]? =some (.loop o))->
   body.wpIn (Fence.wide.inRound l) m P (rndPost w.heap.size b I Ix (pre++[(t,x)]) X) { tmps:=((a.tmps.setIfInBounds p (.int .i64 (t:Nat))).setIfInBounds p' (.slice (some ⟨b,0,none⟩) n c)).setIfInBounds q (.slice (some ⟨b,0,none⟩) n c),defers:=[] } X)
 (hdone:∀ (D:Nat) (W:World),w.heap.size<=D->I rounds W->W.heap[D]? =some (.deferred (some []))->Q .normal { a with defers:={ target:=.collected D,args:= #[] }::a.defers } W)
 (hstop:∀ (D:Nat) (c:Code) (W:World),w.heap.size<=D->Ix c W->W.heap[D]? =some (.deferred (some []))->c.wpIn Fence.wide m P Q { a with defers:={ target:=.collected D,args:= #[] }::a.defers } W):
 (Code.rangeFunc g #[p,p'] assign body).wpIn Fence.wide m P Q a w:=
 range_rounds m hg eg rfl hseq I Ix hIb hI hIx h0 (fun u v=>{ tmps:=((a.tmps.setIfInBounds p u).setIfInBounds p' v).setIfInBounds q v,defers:=[] }) (fun l u v W K hK=>by
  simpa using hassign l u v W K hK) hbody hdone hstop
def roF (s:Int) (gi:List Int) (rs:List RuleM) (most:Nat):Nat->List Int->List (Nat×List Int)
 |0,_=>[]
 |f+1,o=>match ntF s gi rs o most 1 with
  |none=>[]
  |some q=>(q.2,q.1)::roF s gi rs most f q.1
def lastO (o:List Int):List (Nat×List Int)->List Int
 |[]=>o
 |x::L=>lastO x.2 L
theorem lastO_push (o:List Int) (L:List (Nat×List Int)) (x:Nat×List Int):lastO o (L++[x])=x.2:=by
 induction L generalizing o with
 |nil=>rfl
 |cons y L ih=>exact ih y.2
theorem naI_ro {s:Int} {gi:List Int} {rs:List RuleM} {most:Nat}:∀ f o r,naI s gi rs most f o r=(lastO o (roF s gi rs most f o),r+(roF s gi rs most f o).length):=by
 intro f
 induction f with
 |zero=>intro o r;rfl
 |succ f ih=>
  intro o r;simp only [naI,roF]
  cases ntF s gi rs o most 1 with
  |none=>rfl
  |some q=>simp only [ih,lastO,List.length_cons];congr 1;omega
section
variable {s : Int} {gi : List Int} {rs : List RuleM} {most : Nat}
theorem roF_fuel (hv:pvB s gi rs=true) (h4:most<=4):∀ f f' o,mvd o s=true->sumTo o o.length<f->sumTo o o.length<f'->roF s gi rs most f o=roF s gi rs most f' o:=by
 intro f
 induction f with
 |zero=>intro f' o _ h _;omega
 |succ f ih=>
  intro f' o hm h1 h2
  match f',h2 with
  |0,h2=>omega
  |f'+1,h2=>
   simp only [roF]
   cases e:ntF s gi rs o most 1 with
   |none=>rfl
   |some q=>
    obtain ⟨_,q2,q3⟩:=ntF_sub hv h4 hm (q:=q.1) (u:=q.2) e;simp only [ih f' q.1 q2 (by omega) (by omega)]
theorem roF_len (hv:pvB s gi rs=true) (h4:most<=4):∀ f o,mvd o s=true->(roF s gi rs most f o).length<=sumTo o o.length:=by
 intro f
 induction f with
 |zero=>intro o _;exact Nat.zero_le _
 |succ f ih=>
  intro o hm;simp only [roF]
  cases e:ntF s gi rs o most 1 with
  |none=>exact Nat.zero_le _
  |some q=>
   obtain ⟨_,q2,q3⟩:=ntF_sub hv h4 hm (q:=q.1) (u:=q.2) e;have:=ih q.1 q2;simp only [List.length_cons];omega
theorem roF_mem (P:List Int->Prop) (hv:pvB s gi rs=true) (h4:most<=4) (hP:∀ o t,mvd o s=true->1<=t->t<=most->P o->P (nbL s gi rs o (t:Nat))):∀ f o,mvd o s=true->P o->∀ x∈roF s gi rs most f o,1<=x.1/\x.1<=most/\P x.2/\mvd x.2 s=true/\Sub x.2 o:=by
 intro f
 induction f with
 |zero=>intro o _ _ x hx;cases hx
 |succ f ih=>
  intro o hm h x hx;simp only [roF] at hx
  cases e:ntF s gi rs o most 1 with
  |none=>rw [e] at hx;cases hx
  |some q=>
   rw [e] at hx;obtain ⟨h1,h2,h3,_,_⟩:=ntF_some (q:=q.1) (u:=q.2) e;obtain ⟨q1,q2,_⟩:=ntF_sub hv h4 hm (q:=q.1) (u:=q.2) e;have hPq:P q.1:=(by rw [h3];exact hP o _ hm (by omega) (by omega) h)
   rcases List.mem_cons.1 hx with rfl|hx
   ·exact ⟨by dsimp only;omega,by dsimp only;omega,hPq,q2,q1⟩
   ·obtain ⟨a1,a2,a3,a4,a5⟩:=ih q.1 q2 hPq x hx;exact ⟨a1,a2,a3,a4,a5.trans q1⟩
def roE (s:Int) (gi:List Int) (rs:List RuleM) (most:Nat) (o:List Int):List (Nat×List Int):=roF s gi rs most (sumTo o o.length+1) o
theorem roE_none {o:List Int} (h:ntF s gi rs o most 1=none):roE s gi rs most o=[]:=by simp only [roE,roF,h]
theorem roE_some {o q:List Int} {u:Nat} (hv:pvB s gi rs=true) (h4:most<=4) (hm:mvd o s=true) (h:ntF s gi rs o most 1=some (q,u)):roE s gi rs most o=(u,q)::roE s gi rs most q:=by
 obtain ⟨_,q2,q3⟩:=ntF_sub hv h4 hm h;unfold roE;rw [show roF s gi rs most (sumTo o o.length+1) o=(u,q)::roF s gi rs most (sumTo o o.length) q from by simp only [roF,h]];rw [roF_fuel hv h4 (sumTo o o.length) (sumTo q q.length+1) q q2 (by omega) (by omega)]
theorem roE_len {o:List Int} (hv:pvB s gi rs=true) (h4:most<=4) (hm:mvd o s=true):(roE s gi rs most o).length<=480:=Nat.le_trans (roF_len hv h4 _ _ hm) (sum_480 hm)
theorem naE_ro {o:List Int} {r:Nat}:naE s gi rs most o r=(lastO o (roE s gi rs most o),r+(roE s gi rs most o).length):=naI_ro _ _ _
theorem roE_mem {o:List Int} (hv:pvB s gi rs=true) (h4:most<=4) (hm:mvd o s=true):∀ x∈roE s gi rs most o,1<=x.1/\x.1<=most/\mvd x.2 s=true/\Sub x.2 o:=fun x hx=>by
 obtain ⟨a,b,_,c,d⟩:=roF_mem (fun _=>True) hv h4 (fun _ _ _ _ _ _=>trivial) _ _ hm trivial x hx;exact ⟨a,b,c,d⟩
theorem roE_split (hv:pvB s gi rs=true) (h4:most<=4) {L:List (Nat×List Int)}:∀ (pre:List (Nat×List Int)) (o:List Int),mvd o s=true->roE s gi rs most o=pre++L->mvd (lastO o pre) s=true/\roE s gi rs most (lastO o pre)=L/\Sub (lastO o pre) o:=by
 intro pre
 induction pre with
 |nil=>intro o hm h;exact ⟨hm,h,Sub.of_mvd hm⟩
 |cons y pre ih=>
  intro o hm h
  cases e:ntF s gi rs o most 1 with
  |none=>rw [roE_none e] at h;cases h
  |some q=>
   obtain ⟨q1,q2,_⟩:=ntF_sub hv h4 hm (q:=q.1) (u:=q.2) e;rw [roE_some hv h4 hm (q:=q.1) (u:=q.2) e] at h
   injection h with h1 h2
   subst h1;obtain ⟨a,b,c⟩:=ih q.1 q2 h2;exact ⟨a,b,c.trans q1⟩
theorem roE_at (hv:pvB s gi rs=true) (h4:most<=4) {pre tl:List (Nat×List Int)} {o x:List Int} {t:Nat} (hm:mvd o s=true) (h:roE s gi rs most o=pre++(t,x)::tl):mvd (lastO o pre) s=true/\ntF s gi rs (lastO o pre) most 1=some (x,t)/\1<=t/\t<=most/\x=nbL s gi rs (lastO o pre) t/\x≠lastO o pre/\mvd x s=true/\Sub x (lastO o pre)/\roE s gi rs most x=tl:=by
 obtain ⟨a,b,_⟩:=roE_split hv h4 pre o hm h
 cases e:ntF s gi rs (lastO o pre) most 1 with
 |none=>rw [roE_none e] at b;cases b
 |some q=>
  obtain ⟨q1,q2,_⟩:=ntF_sub hv h4 a (q:=q.1) (u:=q.2) e;obtain ⟨h1,h2,h3,h5,_⟩:=ntF_some (q:=q.1) (u:=q.2) e;rw [roE_some hv h4 a (q:=q.1) (u:=q.2) e] at b
  injection b with b1 b2
  injection b1 with b1 b3
  subst b1 b3;exact ⟨a,rfl,h1,by omega,h3,h5,q2,q1,b2⟩
end
end Go.Proofs.YtcjdjcpappfkgaaGreatDoor
namespace Go.Proofs.YtcjdjcpappfkgaaGreatDoor
open Go.ChangeShapes Go.WideShapes Go.ChangeAt Go.RowKit Go.Shelf
attribute [local go_sem] Oper.semAt_some
structure RBase (NB MB SB s L Br:Nat) (At:Option Addr) (nt ct Bt:Nat) (rs:List RuleM) (Am:Option Addr) (nm cm Bm:Nat) (ms:List Int) (most:Nat) (X:World):Prop where
 n:X.heap[NB]? =some (.cells #[.int .i64 s,.slice At nt ct] 97)
 m:X.cell? ⟨MB,0,none⟩=some (.slice Am nm cm)
 o:X.cell? ⟨SB,0,none⟩=some (.int .i64 most)
 t:4<=most->TbR X L Bt Br s rs At nt
 tB:Bt<=X.heap.size
 tr:Br<=Bt
 r:Rd X Bm Am nm ms
 rB:Bm<=X.heap.size
 z:Tz X
set_option maxHeartbeats 4000000 in
theorem rounds_seq (NB MB SB s L Br:Nat) (At:Option Addr) (nt ct Bt:Nat) (gi:List Int) (rs:List RuleM) (Am:Option Addr) (nm cm Bm:Nat) (m:List Int) (most:Nat) (hs:s∈[2,3,4]) (hv:pvB s gi rs=true) (hm:mvd m s=true) (h4:most<=4) (hml:m.length=nm):
 SeqT Tryz.prog 116 #[.pointer (some ⟨NB,0,none⟩),.pointer (some ⟨MB,0,none⟩),.pointer (some ⟨SB,0,none⟩)] (RBase NB MB SB s L Br At nt ct Bt rs Am nm cm Bm m most) (roE s gi rs most m):=by
 intro l J Jx W hJb hJs hJx hY h0;have HN:=Lib.hid (fun (pre:List (Nat×List Int)) (X:World) (hJ:J pre X) (A:Option Addr) (c B:Nat) (o:List Int) (hr:Rd X B A nm o) (hB:B<=X.heap.size) (ho:mvd o s=true)=>next_any s L Br At nt ct Bt gi rs A c nm B o most X (hJb _ _ hJ).t (hJb _ _ hJ).tB (hJb _ _ hJ).tr hr hB (hJb _ _ hJ).z hs hv ho h4);have HB:=Lib.hid (fun (pre:List (Nat×List Int)) (X:World) (hJ:J pre X)=>(⟨(hJb _ _ hJ).n,(hJb _ _ hJ).m,(hJb _ _ hJ).o⟩:X.heap[NB]? =some (.cells #[.int .i64 s,.slice At nt ct] 97)/\X.cell? ⟨MB,0,none⟩=some (.slice Am nm cm)/\X.cell? ⟨SB,0,none⟩=some (.int .i64 most)))
 have HN0:=Lib.hid (HN.out [] W h0 Am cm Bm m (hJb _ _ h0).r (hJb _ _ h0).rB hm);have Hi:=Lib.hid nar_info;have HJs:=Lib.hid hJs;have HJx:=Lib.hid hJx;have HY:=Lib.hid hY;have HAt:=Lib.hid (fun (pre tl:List (Nat×List Int)) (x:List Int) (t:Nat) (h:roE s gi rs most m=pre++(t,x)::tl)=>roE_at hv h4 hm h);have HSp:=Lib.hid (fun (o:List Int) (q:List Int×Nat) (ho:mvd o s=true) (hq:ntF s gi rs o most 1=some q)=>roE_some hv h4 ho (q:=q.1) (u:=q.2) hq);have HSu:=Lib.hid (fun (o:List Int) (q:List Int×Nat) (ho:mvd o s=true) (hq:ntF s gi rs o most 1=some q)=>(ntF_sub hv h4 ho (q:=q.1) (u:=q.2) hq))
 have HT1:=Lib.hid (fun (o:List Int) (q:List Int×Nat) (hq:ntF s gi rs o most 1=some q)=>(ntF_some (q:=q.1) (u:=q.2) hq).1);obtain ⟨b0,b1,b2⟩:=HB.out _ _ h0;have Hm:=Lib.hid hm;have H0:=Lib.hid h0;have Hml:=Lib.hid hml;clear hJb hJs hJx hY hv hm h0 hml
 show Calls Tryz.prog 116 #[.func (.yield l) #[] #[],.pointer (some ⟨NB,0,none⟩),.pointer (some ⟨MB,0,none⟩),.pointer (some ⟨SB,0,none⟩)] W _
 refine (callsIn_wide (n:=9)).1 ?_;refine callsIn_of_wp Tryz.func116 rfl trivial ?_ rfl;simp only [Tryz.ntmps116,List.size_toArray,List.length_cons,List.length_nil,Nat.reduceAdd,Nat.reduceSub,Array.replicate_succ,Array.replicate_zero,List.push_toArray,List.append_toArray,List.nil_append,List.cons_append]
 let St:List Int->Value->Value->World->Prop:=fun o lf te wr=>match ntF s gi rs o most 1 with
  |none=>lf=.slice none 0 0/\te=.int .i64 0
  |some q=>∃ b c,lf=.slice (some ⟨b,0,none⟩) nm c/\te=.int .i64 (q.2:Nat)/\W.heap.size<=b/\Ow wr W.heap.size (some ⟨b,0,none⟩) nm c q.1
 have HSt:Hid (∀ (o:List Int) (X wr:World) (e:Ending),W.heap.size<=X.heap.size->NextPost X nm (ntF s gi rs o most 1) e wr->∃ lf te,e=.returned (.tuple #[lf,te])/\St o lf te wr/\Below X.heap.size X wr):=Lib.hid (fun o X wr e hX h=>by
  show ∃ lf te,e=.returned (.tuple #[lf,te])/\(match ntF s gi rs o most 1 with
   |none=>lf=.slice none 0 0/\te=.int .i64 0
   |some q=>∃ b c,lf=.slice (some ⟨b,0,none⟩) nm c/\te=.int .i64 (q.2:Nat)/\W.heap.size<=b/\Ow wr W.heap.size (some ⟨b,0,none⟩) nm c q.1)/\Below X.heap.size X wr
  cases hq:ntF s gi rs o most 1 with
  |none=>rw [hq] at h;exact ⟨_,_,h.1,⟨rfl,rfl⟩,h.2⟩
  |some q=>
   rw [hq] at h;obtain ⟨⟨b,c,rfl,hb,ho⟩,hbl⟩:=h
   exact ⟨_,_,rfl,⟨b,c,rfl,rfl,by omega,ho.mono hX⟩,hbl⟩)
 gi_wp2_with (first
  |(refine wpListIn_load_row rfl 97 _ rfl NB rfl 97 #[.int .i64 s,.slice At nt ct] (0,0) _ b0 Tryz.underlying97 rfl (Hi.out _ _) ?_)
  |((try refine ⟨trivial,?_⟩);gi_at_call 117;refine (callsIn_wide.2 HN0.out).mono ?_;rintro e w1 hp;obtain ⟨lf,te,rfl,hst,hb1⟩:=HSt.out _ _ _ _ (Nat.le_refl _) hp;clear hp))
 clear b0 b1 b2
 gi_loopw [5,6] (fun lf te wr=>∃ pre o,Hid (J pre wr/\roE s gi rs most m=pre++roE s gi rs most o/\mvd o s=true/\W.heap.size<=wr.heap.size)/\St o lf te wr) (fun lf te wr=>if intOf te=0 then 0 else sumAt wr lf nm+1)
 case atStart=>exact ⟨[],m,Lib.hid ⟨HJs.out _ _ _ H0.out hb1,rfl,Hm.out,hb1.size⟩,hst⟩
 case round=>
  clear hst hb1;obtain ⟨pre,o,hh,hst⟩:=hrel
  cases hq:ntF s gi rs o most 1 with
  |none=>
   simp only [St,hq] at hst;obtain ⟨rfl,rfl⟩:=hst;have HD:=Lib.hid (show roE s gi rs most m=pre by rw [hh.out.2.1,roE_none hq,List.append_nil]);clear hq
   gi_wp2
   refine ⟨fun _ h=>(by cases h),?_⟩
   gi_wp2
   go_end0
   exact ⟨⟨_,rfl⟩,.inl (by rw [HD.out];exact hh.out.1)⟩
  |some q=>
   simp only [St,hq] at hst;obtain ⟨b,c,rfl,rfl,hbW,ho⟩:=hst;obtain ⟨q,t⟩:=q;have ht1:=HT1.out o (q,t) hq;have HE:=Lib.hid (HSp.out o (q,t) hh.out.2.2.1 hq);have HU:=Lib.hid (HSu.out o (q,t) hh.out.2.2.1 hq);have HD:=Lib.hid (show ∃ tl,roE s gi rs most m=pre++(t,q)::tl from ⟨_,by rw [hh.out.2.1,HE.out]⟩);obtain ⟨fn,tmps,assign,body,hyy,hR⟩:=HY.out pre t q wr b nm c hh.out.1 HD.out hbW ho;have htn:((t:Int) != 0)=true:=(by simp;omega);have hS0:=Lib.hid (sumAt_ow ho nm (Nat.le_refl _));have htz:¬ (t:Int)=0:=(by omega);clear hq
   gi_wp2
   refine (roundIn_any hR).mono ?_;rintro e Y ⟨hYs,hYb,(⟨rfl,hj⟩|⟨rfl,hx⟩)⟩
   ·have hoY:Ow Y W.heap.size (some ⟨b,0,none⟩) nm c q:=ho.same hYb;have HNq:=Lib.hid (HN.out _ Y hj (some ⟨b,0,none⟩) c Y.heap.size q hoY.rd (Nat.le_refl _) HU.out.2.1);have hWY:=Nat.le_trans hh.out.2.2.2 hYs;have HJ2:=Lib.hid hj;have HR2:=Lib.hid (show roE s gi rs most m=(pre++[(t,q)])++roE s gi rs most q by rw [hh.out.2.1,HE.out,List.append_assoc];rfl);obtain ⟨b0,b1,b2⟩:=HB.out _ _ hj;clear hyy hR hj hYb
    gi_wp2_with (first
     |(refine wpListIn_load_row rfl 97 _ rfl NB rfl 97 #[.int .i64 s,.slice At nt ct] (0,0) _ b0 Tryz.underlying97 rfl (Hi.out _ _) ?_)
     |((try refine ⟨trivial,?_⟩);gi_at_call 117;refine (callsIn_wide.2 HNq.out).mono ?_;rintro e w1 hp;obtain ⟨lf,te,rfl,hst,hb1⟩:=HSt.out _ _ _ _ hWY hp;clear hp))
    have hsz1:=hb1.size;have hqn:=hoY.len
    have hmeas:(if intOf te=0 then 0 else sumAt w1 lf nm+1)<sumTo q nm+1:=by
     cases hq2:ntF s gi rs q most 1 with
     |none=>
      simp only [St,hq2] at hst;obtain ⟨rfl,rfl⟩:=hst
      simp [intOf]
     |some q2=>
      simp only [St,hq2] at hst;obtain ⟨b2,c2,rfl,rfl,_,ho2⟩:=hst;have e1:=sumAt_ow ho2 nm (Nat.le_refl _);have e2:=(HSu.out q q2 HU.out.2.1 hq2).2.2;rw [ho2.len,hqn] at e2;rw [e1]
      split<;>omega
    have Hmeas:=Lib.hid hmeas;clear hmeas
    gi_wp2
    refine ⟨⟨pre++[(t,q)],q,Lib.hid ⟨HJs.out _ _ _ HJ2.out hb1,HR2.out,HU.out.2.1,by omega⟩,hst⟩,?_⟩;have e1:intOf (Value.int IntKind.i64 (t:Nat))=(t:Nat):=rfl;rw [e1,if_neg htz,hS0.out];exact Hmeas.out
   ·gi_wp2
    go_end0
    exact ⟨⟨_,rfl⟩,.inr hx⟩
theorem rounds_any (s:Nat) (At:Option Addr) (nt ct:Nat) (Am:Option Addr) (nm cm:Nat) (most:Nat) (w:World):
 Calls Tryz.prog 74 #[.agg #[.int .i64 s,.slice At nt ct],.slice Am nm cm,.int .i64 most] w fun e w'=>∃ NB MB SB,e=.returned (.func (.func 116) #[] #[.pointer (some ⟨NB,0,none⟩),.pointer (some ⟨MB,0,none⟩),.pointer (some ⟨SB,0,none⟩)])/\w'.heap[NB]? =some (.cells #[.int .i64 s,.slice At nt ct] 97)/\w'.cell? ⟨MB,0,none⟩=some (.slice Am nm cm)/\w'.cell? ⟨SB,0,none⟩=some (.int .i64 most)/\w.heap.size<=NB/\w.heap.size<=MB/\w.heap.size<=SB/\Below w.heap.size w w':=by
 obtain ⟨Wa,hWa⟩:∃ Wa,w.alloc (.cells #[.int .i64 s,.slice At nt ct] 97)=Wa:=⟨_,rfl⟩
 have hba:Below w.heap.size w Wa:=by rw [<- hWa];exact (Below.refl _ _).alloc (Nat.le_refl _) _
 have hsa:Wa.heap.size=w.heap.size+1:=by rw [<- hWa];simp
 have hra:Wa.heap[w.heap.size]? =some (.cells #[.int .i64 s,.slice At nt ct] 97):=by rw [<- hWa];exact heap_alloc_new w _
 obtain ⟨Wb,hWb⟩:∃ Wb,Wa.alloc (.cells #[.slice Am nm cm] 23)=Wb:=⟨_,rfl⟩
 have hbb:Below Wa.heap.size Wa Wb:=by rw [<- hWb];exact (Below.refl _ _).alloc (Nat.le_refl _) _
 have hsb:Wb.heap.size=w.heap.size+1+1:=by rw [<- hWb];simp [hsa]
 have hrb:Wb.heap[w.heap.size+1]? =some (.cells #[.slice Am nm cm] 23):=by rw [<- hWb,<-hsa];exact heap_alloc_new Wa _
 obtain ⟨Wc,hWc⟩:∃ Wc,Wb.alloc (.cells #[.int .i64 most] 3)=Wc:=⟨_,rfl⟩
 have hbc:Below Wb.heap.size Wb Wc:=by rw [<- hWc];exact (Below.refl _ _).alloc (Nat.le_refl _) _
 have hrc:Wc.heap[w.heap.size+1+1]? =some (.cells #[.int .i64 most] 3):=by rw [<- hWc,<-hsb];exact heap_alloc_new Wb _
 have HA:=Lib.hid ((hbc.block w.heap.size (by omega)).trans ((hbb.block w.heap.size (by omega)).trans hra));have HB:=Lib.hid (cell_of_row _ _ 0 _ _ (0,0) ((hbc.block (w.heap.size+1) (by omega)).trans hrb));have HC:=Lib.hid (cell_of_row _ _ 0 _ _ (0,0) hrc);have HD:=Lib.hid ((hba.trans (hbb.mono (by omega))).trans (hbc.mono (by omega)));clear hba hra hbb hrb hbc hrc
 go_enter Tryz.func74,Tryz.ntmps74
 go_wp2
 go_ret
 exact ⟨w.heap.size,w.heap.size+1,w.heap.size+1+1,rfl,HA.out,HB.out,HC.out,by omega,by omega,by omega,HD.out⟩
attribute [local go_sem] Oper.semAt_some
theorem Ow.same_own8 {w w':World} {lo n c:Nat} {A:Option Addr} {xs:List Int} (h:Ow w lo A n c xs) (hn:0<n) (hs:∀ g,(Value.slice A n c).ownBlock=some g->w'.heap[g]? =w.heap[g]?):Ow w' lo A n c xs:=by
 obtain ⟨g,rfl,_,_⟩:=h.form hn;exact h.same (hs g rfl)
theorem none_of_deferred8 {W:World} {D i:Nat} {o:Option (List Deferred)} (h:W.heap[D]? =some (.deferred o)):W.cell? ⟨D,i,none⟩=none:=by
 unfold World.cell?
 simp [h]
structure Two (X Y:World) (N1 N2:Nat) (o1 o2:Obj):Prop where
 os:Y.os=X.os
 tape:Y.tape=X.tape
 output:Y.output=X.output
 size:Y.heap.size=X.heap.size
 b1:Y.heap[N1]? =some o1
 b2:Y.heap[N2]? =some o2
 other:∀ k,k≠N1->k≠N2->Y.heap[k]? =X.heap[k]?
theorem Two.mk12 {X:World} {N1 N2:Nat} {u1 u2 v1 v2:Value} {t1 t2:TypeId} (h1:X.heap[N1]? =some (.cells #[u1] t1)) (h2:X.heap[N2]? =some (.cells #[u2] t2)) (hne:N1≠N2):Two X ((X.setCell ⟨N1,0,none⟩ v1).setCell ⟨N2,0,none⟩ v2).drew N1 N2 (.cells #[v1] t1) (.cells #[v2] t2):=
 ⟨rfl,rfl,rfl,by show ((X.setCell ⟨N1,0,none⟩ v1).setCell ⟨N2,0,none⟩ v2).heap.size=_;simp,(heap_setCell_other _ ⟨N2,0,none⟩ N1 v2 (fun e=>hne e)).trans (heap_setCell_same X N1 0 _ _ v1 h1),heap_setCell_same _ N2 0 _ _ v2 ((heap_setCell_other X ⟨N1,0,none⟩ N2 v1 (fun e=>hne e.symm)).trans h2),fun k k1 k2=>(heap_setCell_other _ ⟨N2,0,none⟩ k v2 (fun e=>k2 e)).trans (heap_setCell_other X ⟨N1,0,none⟩ k v1 (fun e=>k1 e))⟩
theorem Two.mk21 {X:World} {N1 N2:Nat} {u1 u2 v1 v2:Value} {t1 t2:TypeId} (h1:X.heap[N1]? =some (.cells #[u1] t1)) (h2:X.heap[N2]? =some (.cells #[u2] t2)) (hne:N1≠N2):Two X ((X.setCell ⟨N2,0,none⟩ v2).setCell ⟨N1,0,none⟩ v1).drew N1 N2 (.cells #[v1] t1) (.cells #[v2] t2):=
 have h:=Two.mk12 (v1:=v2) (v2:=v1) h2 h1 hne.symm
 ⟨h.os,h.tape,h.output,h.size,h.b2,h.b1,fun k k1 k2=>h.other k k2 k1⟩
theorem Two.below {X Y:World} {N1 N2 B:Nat} {o1 o2:Obj} (h:Two X Y N1 N2 o1 o2) (h1:B<=N1) (h2:B<=N2):Below B X Y:=⟨h.os,h.tape,h.output,Nat.le_of_eq h.size.symm,fun k hk=>h.other k (by omega) (by omega)⟩
theorem RBase.below {NB MB SB s L Br:Nat} {At:Option Addr} {nt ct Bt:Nat} {rs:List RuleM} {Am:Option Addr} {nm cm Bm:Nat} {ms:List Int} {most D:Nat} {X Y:World} (h:RBase NB MB SB s L Br At nt ct Bt rs Am nm cm Bm ms most X) (hb:Below D X Y) (hN:NB<D) (hM:MB<D) (hS:SB<D) (hBt:Bt<=D) (hBm:Bm<=D) (hz:0<D):RBase NB MB SB s L Br At nt ct Bt rs Am nm cm Bm ms most Y:=
 ⟨(hb.block _ hN).trans h.n,(hb.cell (p:=⟨MB,0,none⟩) hM).trans h.m,(hb.cell (p:=⟨SB,0,none⟩) hS).trans h.o,fun e=>(h.t e).below (hb.mono hBt) h.tr,Nat.le_trans h.tB hb.size,h.tr,h.r.below (hb.mono hBm),Nat.le_trans h.rB hb.size,h.z.below hz hb⟩
theorem RBase.keep {NB MB SB s L Br:Nat} {At:Option Addr} {nt ct Bt:Nat} {rs:List RuleM} {Am:Option Addr} {nm cm Bm:Nat} {ms:List Int} {most L0:Nat} {X Y:World} (h:RBase NB MB SB s L Br At nt ct Bt rs Am nm cm Bm ms most X) (hk:∀ k,L<=k->k<X.heap.size->Y.heap[k]? =X.heap[k]?) (hb:Below L0 X Y) (h0:Br<=L0) (hBm:Bm<=L0) (hz:0<L0) (hN:L<=NB) (hM:L<=MB) (hS:L<=SB):RBase NB MB SB s L Br At nt ct Bt rs Am nm cm Bm ms most Y:=
 ⟨(hk NB hN (Array.getElem?_eq_some_iff.1 h.n).1).trans h.n,(World.cell?_of_block (a:=⟨MB,0,none⟩) (hk MB hM (cell_lt h.m))).trans h.m,(World.cell?_of_block (a:=⟨SB,0,none⟩) (hk SB hS (cell_lt h.o))).trans h.o,fun e=>(h.t e).keep (fun k h1 h2=>hk k h1 (Nat.lt_of_lt_of_le h2 h.tB)) (hb.mono h0),Nat.le_trans h.tB hb.size,h.tr,h.r.below (hb.mono hBm),Nat.le_trans h.rB hb.size,h.z.below hz hb⟩
theorem na_bad {s:Int} {gi:List Int} {rs:List RuleM} {m:List Int} {most:Int} (h:nvB s gi rs m most=false):naL s gi rs m most=[]/\naR s gi rs m most= -1:=by
 have:(pvB s gi rs&&mvd m s&&inr most 1 4)=false:=by
  unfold nvB at h;rw [Bool.and_comm,<-Bool.and_assoc];exact h
 unfold naL naR;rw [this];exact ⟨rfl,rfl⟩
theorem na_good {s:Int} {gi:List Int} {rs:List RuleM} {m:List Int} {most:Nat} (h:nvB s gi rs m (most:Nat)=true):naL s gi rs m (most:Nat)=lastO m (roE s gi rs most m)/\naR s gi rs m (most:Nat)=((roE s gi rs most m).length:Nat):=by
 have:(pvB s gi rs&&mvd m s&&inr (most:Nat) 1 4)=true:=by
  unfold nvB at h;rw [Bool.and_comm,<-Bool.and_assoc];exact h
 unfold naL naR;rw [if_pos this,if_pos this,Int.toNat_natCast,naE_ro];exact ⟨rfl,by simp⟩
set_option maxHeartbeats 4000000 in
theorem implNarrowAll (s:Int) (Ag:Option Addr) (n cg Bg:Nat) (gi:List Int) (Ar:Option Addr) (nr cr Br:Nat) (rs:List RuleM) (A:Option Addr) (c nm B:Nat) (m:List Int) (most:Int) (w:World) (hp:PGc w s Ag n cg Bg gi Ar nr cr Br rs) (h:Rd w B A nm m) (hBm:B<=w.heap.size) (hm64:B64 m) (hm:nm<=1099511627776) (hT:Tz w) (hsb: -9223372036854775808<=s/\s<=9223372036854775807):
 Calls Tryz.prog 34 #[.agg #[.int .i64 s,.slice Ag n cg,.slice Ar nr cr],.slice A nm c,.int .i64 most] w fun e w'=>∃ A' n' c',e=.returned (.tuple #[.slice A' n' c',.int .i64 (naR s gi rs m most)])/\Ow w' w.heap.size A' n' c' (naL s gi rs m most)/\Below w.heap.size w w':=by
 have hx0:=pbox_new w s Ag n cg Ar nr cr 26;obtain ⟨Wa,hWa⟩:∃ Wa,w.alloc (.cells #[.int .i64 s,.slice Ag n cg,.slice Ar nr cr] 26)=Wa:=⟨_,rfl⟩;rw [hWa] at hx0
 have hba:Below w.heap.size w Wa:=by rw [<- hWa];exact (Below.refl _ _).alloc (Nat.le_refl _) _
 have hsa:Wa.heap.size=w.heap.size+1:=by rw [<- hWa];simp
 obtain ⟨z0,z1,z2⟩:=id hx0;have HV:=Lib.hid (narrowingValid_any s Ag n cg Bg gi Ar nr cr Br rs A nm c B m most Wa (hp.below hba) (h.below (hba.mono hBm)) (Nat.le_trans hBm hba.size) hm64 hm hsb);have HX:=Lib.hid (fun w' (hb:Below Wa.heap.size Wa w')=>hx0.below (show w.heap.size<Wa.heap.size by omega) hb);have HBa:=Lib.hid hba;refine (callsIn_wide (n:=9)).1 ?_;refine callsIn_of_wp_marks Tryz.func34 rfl trivial ?_ rfl;simp only [Tryz.ntmps34,List.size_toArray,List.length_cons,List.length_nil,Nat.reduceAdd,Nat.reduceSub,Array.replicate_succ,Array.replicate_zero,List.push_toArray,List.append_toArray,List.nil_append,List.cons_append]
 cases hv:nvB s gi rs m most
 ·obtain ⟨e1,e2⟩:=na_bad hv;rw [e1,e2];rw [hv] at HV
  gi_wp2_with ((try refine ⟨trivial,?_⟩);gi_at_call 72;refine (callsIn_wide.2 HV.out).mono ?_;rintro e w1 ⟨rfl,hb1⟩)
  exact ⟨_,results_tmp2 rfl _ _ _,none,0,0,rfl,Ow.nil_ _ _,step HBa.out hb1⟩
 ·obtain ⟨⟨t1,t4⟩,hpv,hmv,S,rfl,hS⟩:=nv_ok hv;obtain ⟨M,rfl⟩:=Int.eq_ofNat_of_zero_le (show 0<=most by omega);obtain ⟨e1,e2⟩:=na_good hv;rw [e1,e2];rw [hv] at HV;obtain ⟨_,hsq,hnm16,_⟩:=mvd_at hmv;rw [h.1] at hsq hnm16
  have hnm0:0<nm:=by
   simp at hS
   rcases hS with rfl|rfl|rfl<;>omega
  have HN:=Lib.hid (fun (w':World) (hb:Below w.heap.size w w')=>narrower_any S Ag n cg Bg gi Ar nr cr Br rs M w' (hp.below hb) hpv hS (by omega));have HM:=Lib.hid (fun (w':World) (hb:Below w.heap.size w w')=>h.below (hb.mono hBm));have HCl:=Lib.hid (fun (w':World) (hb:Below w.heap.size w w')=>clone_any A nm c B m w' (h.below (hb.mono hBm)) (Nat.le_trans hBm hb.size) hnm0 hm);have HTz:=Lib.hid (fun (w':World) (hb:Below w.heap.size w w')=>hT.below hT.lt hb);have Hml:=Lib.hid h.1;have Hpv:=Lib.hid hpv;have Hmv:=Lib.hid hmv;have hp0:=hp.rB;have HTl:=Lib.hid hT.lt
  have HLen:=Lib.hid (roE_len (rs:=rs) (gi:=gi) hpv (show M<=4 by omega) hmv);have HMem:=Lib.hid (roE_mem (rs:=rs) (gi:=gi) hpv (show M<=4 by omega) hmv);clear e1 e2 hv hpv hmv hsq h hp hT hx0 hba;have hBr0:=hp0
  gi_wp2_with (first
   |((try refine ⟨trivial,?_⟩);gi_at_call 72;refine (callsIn_wide.2 HV.out).mono ?_;rintro e w1 ⟨rfl,hb1⟩;obtain ⟨c0,c1,c2⟩:=HX.out _ hb1;have h01:=step HBa.out hb1)
   |((try refine ⟨trivial,?_⟩);gi_at_call 58;refine (callsIn_wide.2 (HCl.out _ h01)).mono ?_;rintro e w2 ⟨A1,c1',rfl,ho1,hb2⟩;have h02:=step h01 hb2;have ha4:Below w2.heap.size w2 ((w2.alloc (.cells #[.slice A1 nm c1'] 23)).alloc (.cells #[.int .i64 0] 3)):=(((Below.refl _ _).alloc (Nat.le_refl _) _).alloc (by simp) _);have h04:=step h02 ha4;obtain ⟨d0,d1,d2⟩:=HX.out _ (step (step hb1 hb2) ha4))
   |((try refine ⟨trivial,?_⟩);gi_at_call 73;refine (callsIn_wide.2 (HN.out _ h04)).mono ?_;rintro e w5 ⟨A2,n2,c2',rfl,hN2,hb5⟩)
   |((try refine ⟨trivial,?_⟩);gi_at_call 74;refine (callsIn_wide.2 (rounds_any S A2 n2 c2' A nm c M w5)).mono ?_;rintro e w6 ⟨NB,MB,SB,rfl,hnb,hmb,hsb',hNl,hMl,hSl,hb6⟩))
  obtain ⟨w4,hw4⟩:∃ w4,(w2.alloc (.cells #[.slice A1 nm c1'] 23)).alloc (.cells #[.int .i64 0] 3)=w4:=⟨_,rfl⟩
  have hs4:w4.heap.size=w2.heap.size+2:=by rw [<- hw4];simp
  have hr1:w4.heap[w2.heap.size]? =some (.cells #[.slice A1 nm c1'] 23):=by
   rw [<- hw4];exact (Below.heap_alloc _ _ _ (by simp)).trans (heap_alloc_new w2 _)
  have hr2:w4.heap[w2.heap.size+1]? =some (.cells #[.int .i64 0] 3):=by
   rw [<- hw4];have:=heap_alloc_new (w2.alloc (.cells #[.slice A1 nm c1'] 23)) (.cells #[.int .i64 0] 3);rwa [World.size_alloc] at this
  rw [hw4] at ha4 h04 hN2 hb5;have h45:=hb5.size;have h56:=hb6.size;have h24:=h02.size;have hb46:Below w4.heap.size w4 w6:=step hb5 hb6;have h06:=step h04 hb46;have hr16:=(hb46.block _ (by omega)).trans hr1;have hr26:=(hb46.block _ (by omega)).trans hr2;have ho16:=((ho1.mono h01.size).below ha4).below hb46;have hNBl:=(Array.getElem?_eq_some_iff.1 hnb).1;have hMBl:=cell_lt hmb;have hSBl:=cell_lt hsb';have HM6:=HM.out _ h06;have HT6:=HTz.out _ h06;have hTl:=HT6.lt;have hTz0:=HTl.out
  have hNl8:w4.heap.size<=NB:=by omega
  have hMl8:w4.heap.size<=MB:=by omega
  have hSl8:w4.heap.size<=SB:=by omega
  have hN6:4<=M->TbR w6 w4.heap.size w5.heap.size Br S rs A2 n2:=fun e=>(hN2 e).below hb6 (by omega)
  have hgA:∀ g,(Value.slice A1 nm c1').ownBlock=some g->g<w4.heap.size:=fun g hg=>by have:=ho1.own_hi g hg;omega
  clear d0 d1 d2 c0 c1 c2 z0 z1 z2 HX HV HCl HN hr1 hr2 hw4 hN2
  refine range_rounds2 9 (q:=11) (by rfl) (enters_of Tryz.func116 (by kernel_rfl) rfl) (rounds_seq NB MB SB S w4.heap.size Br A2 n2 c2' w5.heap.size gi rs A nm c B m M hS Hpv.out Hmv.out (by omega) Hml.out)
   (fun pre X=>RBase NB MB SB S w4.heap.size Br A2 n2 c2' w5.heap.size rs A nm c B m M X/\(∃ A' c',X.heap[w2.heap.size]? =some (.cells #[.slice A' nm c'] 23)/\Ow X w.heap.size A' nm c' (lastO m pre)/\∀ g,(Value.slice A' nm c').ownBlock=some g->g≠w6.heap.size/\g≠w6.heap.size+1)/\X.heap[w2.heap.size+1]? =some (.cells #[.int .i64 (pre.length:Nat)] 3)/\Below w.heap.size w X/\w6.heap.size<=X.heap.size)
   (fun cc X=>False)
   (fun pre X h=>h.1)
   (fun pre X Y h hA=>by
     obtain ⟨h1,⟨A',c',h2,h3,h4⟩,h5,h6,h7⟩:=h;have hb:=hA.below h7
     exact ⟨h1.below hb hNBl hMBl hSBl (by omega) (by omega) (by omega),⟨A',c',(hb.block _ (by omega)).trans h2,h3.same_own8 hnm0 (fun g e=>hA.block g (h3.own_hi g e) (h4 g e).1 (h4 g e).2),h4⟩,(hb.block _ (by omega)).trans h5,h6.trans (hb.mono (by omega)),Nat.le_trans h7 hA.size⟩)
   (fun cc X Y h hA=>h)
   ⟨⟨hnb,hmb,hsb',hN6,by omega,by omega,HM6,by omega,HT6⟩,⟨A1,c1',hr16,ho16,fun g hg=>by have:=hgA g hg;omega⟩,hr26,h06,Nat.le_refl _⟩ ?assign ?body ?done ?stop
  case assign=>
   intro l u v W K hK;simp only [List.setIfInBounds_toArray,List.set_cons_zero,List.set_cons_succ] at hK ⊢
   gi_wp2
   exact hK
  case body=>
   rintro l pre t x X b n' c' ⟨hbX,⟨A',cc,hrX,hoX,hgX⟩,hqX,hBX,hDX⟩ ⟨tl,htl⟩ hbb hXs hrd hDo hLo
   have hxl:x.length=nm:=by
    have:=(HMem.out (t,x) (by rw [htl];simp)).2.2.2.1;rw [this,Hml.out]
   obtain rfl:n'=nm:=by rw [<- hrd.len];exact hxl
   have hpl:pre.length<480:=by
    have:=HLen.out;rw [htl,List.length_append,List.length_cons] at this;omega
   have hcr:=cell_of_row _ _ 0 _ _ (0,0) hrX;have hfr:=frozen_of_row _ _ 0 _ _ hrX;have hcq:=cell_of_row _ _ 0 _ _ (0,0) hqX;have hfq:=frozen_of_row _ _ 0 _ _ hqX
   have hwr:IntKind.i64.wrap ((pre.length:Int)+1)=((pre.length+1:Nat):Int):=by
    have:=HLen.out;rw [IntWalk.i64_in _ (by omega)];simp
   have HPost:=Lib.hid (fun (Y:World) (a':Act) (hY:Two X Y w2.heap.size (w2.heap.size+1) (.cells #[.slice (some ⟨b,0,none⟩) n' c'] 23) (.cells #[.int .i64 (IntKind.i64.wrap ((pre.length:Int)+1))] 3))=>show rndPost w6.heap.size b (fun pre X=>RBase NB MB SB S w4.heap.size Br A2 n2 c2' w5.heap.size rs A n' c B m M X/\(∃ A' c',X.heap[w2.heap.size]? =some (.cells #[.slice A' n' c'] 23)/\Ow X w.heap.size A' n' c' (lastO m pre)/\∀ g,(Value.slice A' n' c').ownBlock=some g->g≠w6.heap.size/\g≠w6.heap.size+1)/\X.heap[w2.heap.size+1]? =some (.cells #[.int .i64 (pre.length:Nat)] 3)/\Below w.heap.size w X/\w6.heap.size<=X.heap.size) (fun cc X=>False) (pre++[(t,x)]) X Exit.normal a' Y from by
    refine ⟨⟨Nat.le_of_eq hY.size.symm,fun k hk=>hY.other k (by omega) (by omega)⟩,hbX.keep (fun k k1 _=>hY.other k (by omega) (by omega)) (hY.below (B:=w.heap.size) (by omega) (by omega)) hBr0 hBm hTz0 hNl8 hMl8 hSl8,⟨some ⟨b,0,none⟩,c',hY.b1,?_,fun g hg=>?_⟩,?_,hBX.trans (hY.below (by omega) (by omega)),by rw [hY.size];exact hDX⟩
    ·rw [lastO_push];exact (hrd.mono (by omega)).same (hY.other b (by omega) (by omega))
    ·have e:b=g:=Option.some.inj hg;omega
    ·rw [hY.b2,hwr,List.length_append];rfl)
   simp only [List.setIfInBounds_toArray,List.set_cons_zero,List.set_cons_succ];clear hwr hbX hBX hrd hgX hoX hDo hLo
   gi_wp2
   gi_region
   all_goals
    gi_wp2
    first
     |exact HPost.out _ _ (Two.mk12 hrX hqX (by omega))
     |exact HPost.out _ _ (Two.mk21 hrX hqX (by omega))
  case done=>
   rintro D W hD ⟨hbX,⟨A',cc,hrX,hoX,hgX⟩,hqX,hBX,hDX⟩ hK;have hcr:=cell_of_row _ _ 0 _ _ (0,0) hrX;have hcq:=cell_of_row _ _ 0 _ _ (0,0) hqX
   have hgD:∀ g,(Value.slice A' nm cc).ownBlock=some g->g≠D:=fun g e e2=>by
    subst e2;obtain ⟨g',e3,_,_⟩:=hoX.form hnm0;subst e3;obtain ⟨h1,h2⟩:=hoX.cell hnm0
    injection e with e
    subst e;rw [none_of_deferred8 hK] at h1;cases h1
   have HO:=Lib.hid hoX;have HBX:=Lib.hid hBX;clear hbX hoX hBX
   gi_wp2
   gi_region
   all_goals
    gi_wp2
    have hK2:W.drew.heap[D]? =some (.deferred (some [])):=hK;refine ⟨by simp,.inl ⟨_,_,rfl,run_takeDeferred hK2,?_⟩⟩;refine ⟨_,results_tmp2 rfl _ _ _,?_⟩;have hOd:Ow W.drew w.heap.size A' nm cc (lastO m (roE (S:Int) gi rs M m)):=World.ownsRow.drew HO.out;exact ⟨A',nm,cc,rfl,hOd.same_own8 hnm0 (fun g e=>World.putObj_heap_other (fun e2=>hgD g e e2)),HBX.out.drew.trans (below_put _ (by omega) hK2)⟩
  case stop=>
   rintro D cc W hD h hK;exact h.elim
end Go.Proofs.YtcjdjcpappfkgaaGreatDoor
namespace Go.Proofs.YtcjdjcpappfkgaaGreatDoor
open Go.ChangeShapes Go.WideShapes Go.ChangeAt Go.RowKit
theorem implMasksCount (A:Option Addr) (c n B:Nat) (m:List Int) (s:Int) (w:World) (h:Rd w B A n m) (hm64:B64 m) (hB:B<=w.heap.size) (hm:n<=1099511627776) (hsb: -9223372036854775808<=s/\s<=9223372036854775807):
 Calls Tryz.prog 37 #[.slice A n c,.int .i64 s] w fun e w'=>e=.returned (.int .i64 (mcI m s))/\Below w.heap.size w w':=by
 have hlen:=Lib.hid h.1;have HV:=Lib.hid (implMasksValid A c n B m s w h hm64 hB hm hsb);cases hv:mvd m s
 ·have HL:=Lib.hid (show mcI m s= -1 by simp [mcI,hv])
  go_enter Tryz.func37,Tryz.ntmps37
  go_wp2_with (go_at_call 70;refine HV.out.mono ?_;rintro e w1 ⟨rfl,hb1⟩;rw [hv])
  go_ret
  exact ⟨by rw [HL.out];rfl,hb1⟩
 ·have HL:=Lib.hid (show mcI m s=(mcTo m n:Nat) by rw [mcI,if_pos hv,hlen.out]);obtain ⟨_,_,hn16,hrng⟩:=mvd_at hv;rw [hlen.out] at hn16 hrng;have Hrng:=Lib.hid hrng;clear hrng
  go_enter Tryz.func37,Tryz.ntmps37
  go_wp2_with (go_at_call 70;refine HV.out.mono ?_;rintro e w1 ⟨rfl,hb1⟩;rw [hv])
  go_loop [5,14] (fun q i=>∃ k:Nat,k<=n/\i=.int .i64 k/\q=.int .i64 (mcTo m k:Nat)) (fun _ i=>n-(intOf i).toNat)
  case atStart=>exact ⟨0,Nat.zero_le _,rfl,rfl⟩
  case round=>
   obtain ⟨k,hk,rfl,rfl⟩:=hrel;have hle:=mcTo_le m k
   by_cases hlt:k<n
   ·obtain ⟨b,off,rfl,hbB,hck⟩:=(h.below (hb1.mono hB)).at_ hlt;obtain ⟨x0,x1,x2⟩:=Hrng.out k hlt;obtain ⟨M,hM⟩:=Int.eq_ofNat_of_zero_le x0;have hm2:M%2=0:=(by rw [hM,Int.tmod_eq_emod_of_nonneg (by omega)] at x2;omega);have hM32:M<32:=(by omega);have Ho:=Lib.hid (fun w'=>ones_any M hM32 hm2 w');rw [ones_bits M hM32 hm2] at Ho
    have Hs:=Lib.hid (show mcTo m (k+1)=mcTo m k+(bitsTo M 4).length by
     simp only [mcTo,maskVals]
     rw [if_pos (by simp only [mvOk,inr,Bool.and_eq_true,decide_eq_true_eq,beq_iff_eq];exact ⟨⟨x0,x1⟩,x2⟩),hM,Int.toNat_natCast])
    have hl4:=bitsTo_length M 4;obtain ⟨l,hl⟩:∃ l,(bitsTo M 4).length=l:=⟨_,rfl⟩;rw [hl] at Hs hl4 Ho;rw [hM] at hck;clear x0 x1 x2 hl hM hm2
    go_wp2_with (go_at_call 78;refine (Ho.out _).mono ?_;rintro e w3 ⟨rfl,rfl⟩)
    go_round
    case rel=>exact ⟨k+1,by omega,by go_num,by rw [Hs.out];simp⟩
    case measure=>simp [intOf];omega
   ·obtain rfl:k=n:=by omega
    go_wp2
    go_ret
    exact ⟨by rw [HL.out];rfl,hb1⟩
end Go.Proofs.YtcjdjcpappfkgaaGreatDoor
