import Derived.Test.YtkeoflnmbcdmfaaGreatDoorMR21
import Derived.Test.YtkeoflnmbcdmfaaGreatDoorLR
import Derived.Test.YtkeoflnmbcdmfaaGreatDoorMMadeA
import Derived.Test.YtkeoflnmbcdmfaaGreatDoorMSol
import Derived.Test.YtkeoflnmbcdmfaaGreatDoorQ4S
import Derived.Test.YtkeoflnmbcdmfaaGreatDoorOwn
import Derived.Test.YtkeoflnmbcdmfaaGreatDoorQ4R
import Derived.Deep.RegionHeld3
set_option maxRecDepth 8000
namespace Go.Proofs.YtkeoflnmbcdmfaaGreatDoor
open Go.ChangeShapes Go.WideShapes Go.ChangeAt Go.RowKit
def DrewPuz (w:World) (B G P:Nat) (m:Int) (e:Ending) (w':World):Prop:=
 ∃ (s:Int) (A1:Option Addr) (n c1:Nat) (gi:List Int) (A2:Option Addr) (nr c2:Nat) (rs:List RuleM),e=.returned (.agg #[.int .i64 s,.slice A1 n c1,.slice A2 nr c2])/\2<=s/\s<=4/\Rd w' w'.heap.size A1 n gi/\n<=16/\(∀ b off,A1=some ⟨b,off,none⟩->w.heap.size<=b)/\OwR w' w.heap.size (.slice A2 nr c2) rs nr/\rs.length=nr/\nr<=100/\Rdr w' B G P/\w.grownBy w' (some G)/\(m<1->pvB s gi rs=true)
def PSt (w2:World) (B G P Pz:Nat) (s:Int) (N:Nat) (wr:World):Prop:=
 ∃ (A1:Option Addr) (n c1:Nat) (gi:List Int) (A2:Option Addr) (nr c2:Nat) (rs:List RuleM),wr.heap[Pz]? =some (.cells #[.int .i64 s,.slice A1 n c1,.slice A2 nr c2] 26)/\(n:Int)=s*s/\Ow wr w2.heap.size A1 n c1 gi/\OwR wr w2.heap.size (.slice A2 nr c2) rs nr/\rs.length=nr/\nr<=N/\Rdr wr B G P/\w2.grownBy wr (some G)/\SpQ wr w2.heap.size (.slice A2 nr c2) nr (fun g=>(Value.slice A1 n c1).ownBlock≠some g)/\(N<10->pvB s gi rs=true)
theorem pv_nil {s:Int} {g:List Int} (h:gv g s=true):pvB s g []=true:=by simp [pvB,h]
theorem pv_app {s:Int} {gi:List Int} {rs rs2:List RuleM} (h:pvB s gi rs=true) (hl:rs.length+rs2.length<=20) (hv:∀ i,i<rs2.length->rvR s (rat rs2 i)=true):pvB s gi (rs++rs2)=true:=by
 obtain ⟨h1,h2,h3⟩:=pv_gv h;unfold pvB;rw [h1,decide_eq_true (by simpa using hl:(rs++rs2).length<=20)];simp only [Bool.and_true,List.all_eq_true,List.mem_range,List.length_append];intro i hi
 by_cases hlt:i<rs.length
 ·rw [rat_left rfl hlt];exact h3 i hlt
 ·obtain ⟨q,rfl⟩:∃ q,i=rs.length+q:=⟨i-rs.length,by omega⟩;rw [rat_right rfl];exact hv q (by omega)
theorem pv_set {s:Int} {gi:List Int} {rs:List RuleM} {j:Nat} {z:Int} (h:pvB s gi rs=true) (hz:0<=z/\z<=s):pvB s (gi.set j z) rs=true:=by
 have hg:gv (gi.set j z) s=true:=by
  obtain ⟨h1,_,_⟩:=pv_gv h;simp only [gv,Bool.and_eq_true,List.all_eq_true,List.length_set] at h1 ⊢;refine ⟨h1.1,fun y hy=>?_⟩
  rcases List.mem_or_eq_of_mem_set hy with h2|rfl
  ·exact h1.2 y h2
  ·simp [inr,hz]
 obtain ⟨h1,_,_⟩:=pv_gv h;unfold pvB at h ⊢;rw [hg];rw [h1] at h;exact h
theorem pv_min {s:Int} {n:Nat} {rs:List RuleM} {gi:List Int} (h:pvB s gi rs=true) (k:Nat):pvB s (minL s n rs gi k) rs=true:=by
 have hs:=gv_size (pv_gv h).1
 induction k with
 |zero=>exact h
 |succ k ih=>
  unfold minL
  split
  ·exact pv_set ih (by omega)
  ·exact ih
theorem rr_valid:∀ i,i<4->rvR 4 (rat (rrL (mapTo boxC 16) 4 16) i)=true:=by decide
theorem below_ownR {w w':World} {N lo n sz:Nat} {v:Value} {e:TypeId} {xs:List Value} (hown:w.ownsRow lo e sz v n xs) (hN:N<=lo) (hNw:N<=w.heap.size) (hg:w.grownBy w' v.ownBlock):Below N w w':=
 ⟨hg.os,hg.tape,hg.output,hg.size,fun k hk=>hg.block k (Nat.lt_of_lt_of_le hk hNw) (fun e2=>by have:=(World.ownsRow.lt hown k e2.symm).1;omega)⟩
theorem ownsRow_cellX {w:World} {lo sz n X j:Nat} {e t:TypeId} {v u:Value} {xs:List Value} {cs:Array Value} (h:w.ownsRow lo e sz v n xs) (hX:w.heap[X]? =some (.cells cs t)) (hne:t≠e):(w.setCell ⟨X,j,none⟩ u).ownsRow lo e sz v n xs:=by
 refine World.ownsRow.kept h (row:=some X) grown_set ?_
 rcases h.2 with ⟨rfl,_⟩|⟨g,cap,cur,rfl,hb,hg,_⟩
 ·exact .inl rfl
 ·refine .inr (fun e2=>?_)
  have e3:g=X:=by simpa [Value.ownBlock] using e2
  subst e3;rw [hX] at hg
  injection hg with hg
  injection hg with _ h2 _
  exact hne h2
theorem SpQ.cellX {w:World} {lo k X j:Nat} {v u:Value} {Q:Nat->Prop} {cs:Array Value} (h:SpQ w lo v k Q) (hX:w.heap[X]? =some (.cells cs 26)):SpQ (w.setCell ⟨X,j,none⟩ u) lo v k Q:=h.map fun _ hown=>ownsRow_cellX hown hX (by decide)
theorem OwR.cellX {w:World} {lo k X j:Nat} {v u:Value} {rs:List RuleM} {cs:Array Value} (h:OwR w lo v rs k) (hX:w.heap[X]? =some (.cells cs 26)):OwR (w.setCell ⟨X,j,none⟩ u) lo v rs k:=by
 obtain ⟨vs,hown,hin⟩:=h;refine ⟨vs,ownsRow_cellX hown hX (by decide),fun i hi=>?_⟩;obtain ⟨A',c',e0,e1,e2,e3,e4,e5⟩:=hin i hi;exact ⟨A',c',e0,e1,e2,ownsRow_cellX e3 hX (by decide),e4,e5⟩
theorem pst_push {w2 wr w5 w6:World} {B G P' Pz N n c1 nr c2 nr' c':Nat} {s:Int} {A1 A2 A':Option Addr} {gi:List Int} {rs rs':List RuleM} (hrow:wr.heap[Pz]? =some (.cells #[.int .i64 s,.slice A1 n c1,.slice A2 nr c2] 26)) (hn:(n:Int)=s*s) (ho:Ow wr w2.heap.size A1 n c1 gi)
 (hR:OwR wr w2.heap.size (.slice A2 nr c2) rs nr) (hg:w2.grownBy wr (some G)) (hG:G<w2.heap.size) (hPz:w2.heap.size<=Pz) (hB:B<=w2.heap.size)
 (hr5:Rdr w5 B G P') (hg5:wr.grownBy w5 (some G)) (hR6:OwR w6 w2.heap.size (.slice A' nr' c') rs' nr') (hl':rs'.length=nr') (hN:nr'<=N) (hg6:w5.grownBy w6 (Value.slice A2 nr c2).ownBlock) (hS6:SpQ w6 w2.heap.size (.slice A' nr' c') nr' (fun g=>(Value.slice A1 n c1).ownBlock≠some g)) (hV:N<10->pvB s gi rs'=true):
 PSt w2 B G P' Pz s N (w6.setCell ⟨Pz,2,none⟩ (.slice A' nr' c')):=by
 obtain ⟨vs,hown,_⟩:=hR.keptL hg5 hG;have hrow5:=(hg5.block Pz (Array.getElem?_eq_some_iff.1 hrow).1 (by intro e;injection e with e;omega)).trans hrow;have hrow6:=row_own hrow5 hown (by decide) hg6;have ho6:=ow_own (ho.keptG hg5 hG) hown (by decide) hg6;have hg25:=hg.trans hg5;have hb56:=below_ownR hown (Nat.le_refl _) hg25.size hg6;have hr6:=hr5.belowN hb56 hG hB;have hg26:=grown_own hg25 hown (Nat.le_refl _) hg6;exact ⟨A1,n,c1,gi,A',nr',c',rs',heap_setCell_same w6 Pz 2 _ _ _ hrow6,hn,ownsRow_cellX ho6 hrow6 (by decide),hR6.cellX hrow6,hl',hN,hr6.belowN ((Below.refl _ _).setCell hPz _) hG hB,grown_low hg26 ((Below.refl _ _).setCell hPz _),hS6.cellX hrow6,hV⟩
theorem pst_row {w2 wr w6 w7:World} {G lo Pz nr c2:Nat} {A2:Option Addr} {rs:List RuleM} {cs:Array Value} (hrow:wr.heap[Pz]? =some (.cells cs 26)) (hG:G<w2.heap.size) (hPz:w2.heap.size<=Pz) (hg6:wr.grownBy w6 (some G)) (hR6:OwR w6 lo (.slice A2 nr c2) rs nr) (hg7:w6.grownBy w7 (Value.slice A2 nr c2).ownBlock):w7.heap[Pz]? =some (.cells cs 26):=by
 obtain ⟨vs,hown,_⟩:=hR6;exact row_own ((hg6.block Pz (Array.getElem?_eq_some_iff.1 hrow).1 (by intro e;injection e with e;omega)).trans hrow) hown (by decide) hg7
theorem pst_row6 {w2 wr w6:World} {G Pz:Nat} {cs:Array Value} (hrow:wr.heap[Pz]? =some (.cells cs 26)) (hG:G<w2.heap.size) (hPz:w2.heap.size<=Pz) (hg6:wr.drew.grownBy w6 (some G)):w6.heap[Pz]? =some (.cells cs 26):=
 (hg6.block Pz (Array.getElem?_eq_some_iff.1 hrow).1 (by intro e;injection e with e;omega)).trans hrow
theorem pst_fact {w2 wr w6:World} {G nr c2 n6 c6:Nat} {A2 A6:Option Addr} {rs:List RuleM} {xs6:List Int} (hR:OwR wr w2.heap.size (.slice A2 nr c2) rs nr) (hgw:w2.grownBy wr (some G)) (hG:G<w2.heap.size) (ho6:Ow w6 wr.drew.heap.size A6 n6 c6 xs6) (hg6:wr.drew.grownBy w6 (some G)) (k v:Int):
 OwR (w6.alloc (.cells #[.int .i64 k,.slice A6 n6 c6,.int .i64 v] 88)) w2.heap.size (.slice A2 nr c2) rs nr/\Ow (w6.alloc (.cells #[.int .i64 k,.slice A6 n6 c6,.int .i64 v] 88)) w2.heap.size A6 n6 c6 xs6/\w2.heap.size<=(w6.alloc (.cells #[.int .i64 k,.slice A6 n6 c6,.int .i64 v] 88)).heap.size/\wr.grownBy (w6.alloc (.cells #[.int .i64 k,.slice A6 n6 c6,.int .i64 v] 88)) (some G):=by
 have hg:wr.grownBy w6 (some G):=⟨hg6.os,hg6.tape,hg6.output,hg6.size,hg6.block⟩;have h1:w2.heap.size<=w6.heap.size:=Nat.le_trans hgw.size hg.size;exact ⟨(hR.keptL hg hG).below ((Below.refl _ _).alloc (Nat.le_refl _) _),World.ownsRow.alloc (ho6.mono hgw.size) _,le_alloc5 h1,only_alloc hg _⟩
theorem ne_ty {w:World} {lo lo' n c k sz:Nat} {A:Option Addr} {xs:List Int} {v:Value} {e:TypeId} {vs:List Value} (ho:Ow w lo A n c xs) (hown:w.ownsRow lo' e sz v k vs) (hne:3≠e):∀ g,(Value.slice A n c).ownBlock=some g->v.ownBlock≠some g:=by
 intro g hg e1
 rcases hown.2 with ⟨e2,_⟩|⟨g1,cap1,cur1,e2,_,hr1,_⟩
 ·rw [e2] at e1;simp [Value.ownBlock] at e1
 ·rcases ho.2 with ⟨e3,_⟩|⟨g2,cap2,cur2,e3,_,hr2,_⟩
  ·rw [e3] at hg;simp [Value.ownBlock] at hg
  ·rw [e2] at e1;rw [e3] at hg
   simp [Value.ownBlock] at e1 hg
   subst e1;subst hg;rw [hr1] at hr2
   injection hr2 with hr2
   injection hr2 with _ h2 _
   exact hne h2.symm
theorem pst_below {w2 wr w':World} {B G P Pz N:Nat} {s:Int} (h:PSt w2 B G P Pz s N wr) (hB:B<=w2.heap.size) (hb:Below wr.heap.size wr w'):PSt w2 B G P Pz s N w':=by
 obtain ⟨A1,n,c1,gi,A2,nr,c2,rs,hrow,hn,ho,hR,hl,hN,hr,hg,hS,hV⟩:=h;exact ⟨A1,n,c1,gi,A2,nr,c2,rs,(hb.block Pz (Array.getElem?_eq_some_iff.1 hrow).1).trans hrow,hn,ho.below hb,hR.below hb,hl,hN,hr.belowN hb hr.lt (Nat.le_trans hB hg.size),grown_low hg (hb.mono hg.size),hS.below hb,hV⟩
theorem pst_more {w2 wr:World} {B G P P' Pz N N':Nat} {s:Int} (h:PSt w2 B G P Pz s N wr) (hP:P<=P') (hN:N<=N'):PSt w2 B G P' Pz s N' wr:=by
 obtain ⟨A1,n,c1,gi,A2,nr,c2,rs,hrow,hn,ho,hR,hl,hN',hr,hg,hS,hV⟩:=h;exact ⟨A1,n,c1,gi,A2,nr,c2,rs,hrow,hn,ho,hR,hl,Nat.le_trans hN' hN,hr.more hP,hg,hS,fun h=>hV (by omega)⟩
theorem pst_pick {w2 wr w':World} {B G P P' Pz N:Nat} {s:Int} (h:PSt w2 B G P Pz s N wr) (hG:G<w2.heap.size) (hPz:w2.heap.size<=Pz) (hg':wr.grownBy w' (some G)) (hr':Rdr w' B G P'):PSt w2 B G P' Pz s N w':=by
 obtain ⟨A1,n,c1,gi,A2,nr,c2,rs,hrow,hn,ho,hR,hl,hN,hr,hg,hS,hV⟩:=h;exact ⟨A1,n,c1,gi,A2,nr,c2,rs,(hg'.block Pz (Array.getElem?_eq_some_iff.1 hrow).1 (by intro e;injection e with e;omega)).trans hrow,hn,ho.keptG hg' hG,hR.keptL hg' hG,hl,hN,hr',hg.trans hg',hS.keptL hg' hG,hV⟩
theorem pst_store {w2 w:World} {B G P Pz N n c1 nr c2 g1:Nat} {s:Int} {A2:Option Addr} {gi:List Int} {rs:List RuleM} (hrow:w.heap[Pz]? =some (.cells #[.int .i64 s,.slice (some ⟨g1,0,none⟩) n c1,.slice A2 nr c2] 26)) (hn:(n:Int)=s*s) (ho:Ow w w2.heap.size (some ⟨g1,0,none⟩) n c1 gi)
 (hR:OwR w w2.heap.size (.slice A2 nr c2) rs nr) (hl:rs.length=nr) (hN:nr<=N) (hr:Rdr w B G P) (hg:w2.grownBy w (some G)) (hS:SpQ w w2.heap.size (.slice A2 nr c2) nr (fun g=>(Value.slice (some ⟨g1,0,none⟩) n c1).ownBlock≠some g)) (hV:N<10->pvB s gi rs=true) (hG:G<w2.heap.size) (hB:B<=w2.heap.size) (j:Nat) (z:Int) (hz:0<=z/\z<=s):PSt w2 B G P Pz s N (w.setCell ⟨g1,j,none⟩ (.int .i64 z)):=by
 have hlo:w2.heap.size<=g1:=ho.own_lo g1 rfl
 obtain ⟨cs,hcs⟩:∃ cs,w.heap[g1]? =some (.cells cs 3):=by
  rcases ho.2 with ⟨e,_⟩|⟨g,cap,cur,e,_,hg,_⟩
  ·cases e
  ·injection e with e _ _
   injection e with e
   injection e with e _ _
   subst e;exact ⟨_,hg⟩
 have ho':Ow (w.setCell ⟨g1,j,none⟩ (.int .i64 z)) w2.heap.size (some ⟨g1,0,none⟩) n c1 (gi.set j z):=by
  have:=(World.ownsRow.stored ho j (.int .i64 z)).1;unfold Ow;rwa [show vals (gi.set j z)=(vals gi).set j (.int .i64 z) by simp [vals,List.map_set]]
 have hown':∀ vs,w.ownsRow w2.heap.size 88 3 (.slice A2 nr c2) nr vs->(w.setCell ⟨g1,j,none⟩ (.int .i64 z)).ownsRow w2.heap.size 88 3 (.slice A2 nr c2) nr vs:=fun vs hown=>by
  refine World.ownsRow.kept hown (row:=some g1) grown_set ?_
  rcases hown.2 with ⟨e1,_⟩|⟨g',cap,cur,e1,hb,hg',_⟩
  ·rw [e1];exact .inl rfl
  ·refine .inr (fun e2=>?_);rw [e1] at e2;have e3:g'=g1:=(by simpa [Value.ownBlock] using e2);subst e3;rw [hcs] at hg'
   injection hg' with hg'
   injection hg' with _ h2 _
   exact absurd h2 (by decide)
 obtain ⟨vs,hown,hin,hcb⟩:=hR.with_ hS
 have hR':OwR (w.setCell ⟨g1,j,none⟩ (.int .i64 z)) w2.heap.size (.slice A2 nr c2) rs nr:=by
  refine ⟨vs,hown' vs hown,fun i hi=>?_⟩;obtain ⟨A',c',e0,e1,e2,e3,e4,e5⟩:=hin i hi;exact ⟨A',c',e0,e1,e2,Ow.far e3 (row:=some g1) grown_set (fun b hbb e=>hcb i A' _ c' hi e1 b hbb e),e4,e5⟩
 have hb:Below w2.heap.size w (w.setCell ⟨g1,j,none⟩ (.int .i64 z)):=(Below.refl _ _).setCell hlo _;exact ⟨_,n,c1,_,A2,nr,c2,rs,row_own hrow ho (by decide) grown_set,hn,ho',hR',hl,hN,hr.belowN hb hG hB,grown_low hg hb,hS.map hown',fun h=>pv_set (hV h) hz⟩
theorem rr_box:(rrL (mapTo boxC 16) 4 16).length=4:=by decide
def RelP (w2:World) (B G Pz P':Nat) (w w':World):Prop:=
 w.heap.size<=w'.heap.size/\(w2.grownBy w (some G)->w2.grownBy w' (some G))/\(∀ cs,w.heap[Pz]? =some (.cells cs 26)->w'.heap[Pz]? =some (.cells cs 26))/\(∀ A n c xs,Ow w w2.heap.size A n c xs->Ow w' w2.heap.size A n c xs)/\(w2.heap.size<=w.heap.size->Rdr w B G P'->Rdr w' B G P')
theorem relP_refl {w2:World} {B G Pz P':Nat} (w:World):RelP w2 B G Pz P' w w:=⟨Nat.le_refl _,fun h=>h,fun _ h=>h,fun _ _ _ _ h=>h,fun _ h=>h⟩
theorem relP_trans {w2:World} {B G Pz P':Nat} {w w' w'':World} (h:RelP w2 B G Pz P' w w') (h':RelP w2 B G Pz P' w' w''):RelP w2 B G Pz P' w w'':=
 ⟨Nat.le_trans h.1 h'.1,fun x=>h'.2.1 (h.2.1 x),fun cs x=>h'.2.2.1 cs (h.2.2.1 cs x),fun A n c xs x=>h'.2.2.2.1 A n c xs (h.2.2.2.1 A n c xs x),fun hs x=>h'.2.2.2.2 (Nat.le_trans hs h.1) (h.2.2.2.2 hs x)⟩
theorem relP_grown {w2:World} {B G Pz P':Nat} {w w':World} (hG:G<w2.heap.size) (hPz:w2.heap.size<=Pz) (hg:w.grownBy w' (some G)) (hr:Rdr w B G P'->Rdr w' B G P'):RelP w2 B G Pz P' w w':=
 ⟨hg.size,fun x=>x.trans hg,fun cs x=>(hg.block Pz (Array.getElem?_eq_some_iff.1 x).1 (by intro e;injection e with e;omega)).trans x,fun A n c xs x=>x.keptG hg hG,fun _ x=>hr x⟩
theorem relP_own {w2:World} {B G Pz P' nr c2:Nat} {A2:Option Addr} {vs:List Value} {w w':World} (hG:G<w2.heap.size) (hB:B<=w2.heap.size) (hown:w.ownsRow w2.heap.size 88 3 (.slice A2 nr c2) nr vs) (hg:w.grownBy w' (Value.slice A2 nr c2).ownBlock):RelP w2 B G Pz P' w w':=
 ⟨hg.size,fun x=>grown_own x hown (Nat.le_refl _) hg,fun cs x=>row_own x hown (by decide) hg,fun A n c xs x=>ow_own x hown (by decide) hg,fun hs x=>x.belowN (below_ownR hown (Nat.le_refl _) hs hg) hG hB⟩
def RuleG (w2:World) (G Pz:Nat) (s:Int) (Ag:Option Addr) (ng cg:Nat) (A2:Option Addr) (nr c2:Nat) (X:Option Nat) (gi:List Int) (m':Int):Nat->Value->World->Prop
 |0,v,_=>v=.pointer (some ⟨Pz,2,none⟩)
 |1,v,_=>v=.slice A2 nr c2
 |2,v,_=>v=.pointer (some ⟨G,0,none⟩)
 |3,v,_=>v=.slice Ag ng cg
 |4,v,_=>v=.int .i64 s
 |5,v,w=>∃ k A n c u xs,v=.agg #[.int .i64 k,.slice A n c,.int .i64 u]/\Ow w w2.heap.size A n c xs/\n<=5/\(m'<1->rv k xs u s=true)/\∀ g,(Value.slice A n c).ownBlock=some g->X≠some g
 |6,v,w=>∃ b k A n c u xs,v=.slice (some ⟨b,0,none⟩) 1 1/\w.heap[b]? =some (.cells #[.int .i64 k,.slice A n c,.int .i64 u] 88)/\Ow w w2.heap.size A n c xs/\n<=5/\some b≠(Value.slice A2 nr c2).ownBlock/\b≠G/\(m'<1->rv k xs u s=true)/\∀ g,(Value.slice A n c).ownBlock=some g->X≠some g
 |7,v,w=>∃ A' c' rs',v=.slice A' (nr+1) c'/\OwR w w2.heap.size (.slice A' (nr+1) c') rs' (nr+1)/\rs'.length=nr+1/\SpQ w w2.heap.size (.slice A' (nr+1) c') (nr+1) (fun g=>X≠some g)/\(m'<1->pvB s gi rs'=true)
 |8,v,_=>v=.pointer (some ⟨Pz,2,none⟩)
 |_,_,_=>True
def RuleEff (w2:World) (G nr c2:Nat) (A2:Option Addr) (i:Nat) (w w':World):Prop:=
 if i=7 then w.grownBy w' (Value.slice A2 nr c2).ownBlock/\∃ vs,w.ownsRow w2.heap.size 88 3 (.slice A2 nr c2) nr vs else w.grownBy w' (some G)
theorem ruleG_eff {w2:World} {G Pz ng cg nr c2:Nat} {s:Int} {Ag A2:Option Addr} {X:Option Nat} {gi:List Int} {m':Int} (hG:G<w2.heap.size) (j i:Nat) (v:Value) (w w':World) (hji:j≠i) (h:RuleEff w2 G nr c2 A2 i w w') (hg:RuleG w2 G Pz s Ag ng cg A2 nr c2 X gi m' j v w):RuleG w2 G Pz s Ag ng cg A2 nr c2 X gi m' j v w':=by
 unfold RuleEff at h
 by_cases hi:i=7
 ·rw [if_pos hi] at h;obtain ⟨hgr,vs,hown⟩:=h
  match j,hg with
  |0,hg=>exact hg
  |1,hg=>exact hg
  |2,hg=>exact hg
  |3,hg=>exact hg
  |4,hg=>exact hg
  |5,⟨k,A,n,c,u,xs,e,ho,hn,hq⟩=>exact ⟨k,A,n,c,u,xs,e,ow_own ho hown (by decide) hgr,hn,hq⟩
  |6,⟨b,k,A,n,c,u,xs,e,hr,ho,hn,hb,hbG⟩=>exact ⟨b,k,A,n,c,u,xs,e,(hgr.block b (Array.getElem?_eq_some_iff.1 hr).1 hb).trans hr,ow_own ho hown (by decide) hgr,hn,hb,hbG⟩
  |7,_=>exact absurd hi.symm hji
  |8,hg=>exact hg
  |_+9,hg=>exact hg
 ·rw [if_neg hi] at h
  match j,hg with
  |0,hg=>exact hg
  |1,hg=>exact hg
  |2,hg=>exact hg
  |3,hg=>exact hg
  |4,hg=>exact hg
  |5,⟨k,A,n,c,u,xs,e,ho,hn,hq⟩=>exact ⟨k,A,n,c,u,xs,e,ho.keptG h hG,hn,hq⟩
  |6,⟨b,k,A,n,c,u,xs,e,hr,ho,hn,hb,hbG⟩=>exact ⟨b,k,A,n,c,u,xs,e,(h.block b (Array.getElem?_eq_some_iff.1 hr).1 (by intro e;injection e with e;exact hbG.1 e)).trans hr,ho.keptG h hG,hn,hb,hbG⟩
  |7,⟨A',c',rs',e,ho,hl,hS,hV⟩=>exact ⟨A',c',rs',e,ho.keptL h hG,hl,hS.keptL h hG,hV⟩
  |8,hg=>exact hg
  |_+9,hg=>exact hg
def RuleC (w2:World) (B G P nr c2:Nat) (A2:Option Addr) (rs:List RuleM) (X:Option Nat) (j:Nat) (w:World):Prop:=
 (j=5->Rdr w B G P)/\(j=7->OwR w w2.heap.size (.slice A2 nr c2) rs nr/\SpQ w w2.heap.size (.slice A2 nr c2) nr (fun g=>X≠some g))
def FSt (w2:World) (B G P Pz:Nat) (s m:Int) (wr:World):Prop:=
 ∃ (A1:Option Addr) (n c1:Nat) (gi:List Int) (A2:Option Addr) (nr c2:Nat) (rs:List RuleM),wr.heap[Pz]? =some (.cells #[.int .i64 s,.slice A1 n c1,.slice A2 nr c2] 26)/\n<=16/\Rd wr wr.heap.size A1 n gi/\(∀ b off,A1=some ⟨b,off,none⟩->w2.heap.size<=b)/\OwR wr w2.heap.size (.slice A2 nr c2) rs nr/\rs.length=nr/\nr<=100/\Rdr wr B G P/\w2.grownBy wr (some G)/\(m<1->pvB s gi rs=true)
theorem fst_of {w2 wr:World} {B G P P' Pz N:Nat} {s m:Int} (h:PSt w2 B G P Pz s N wr) (hs:s*s<=16) (hP:P<=P') (hN:N<=100) (hm:N<10\/1<=m):FSt w2 B G P' Pz s m wr:=by
 obtain ⟨A1,n,c1,gi,A2,nr,c2,rs,hrow,hn,ho,hR,hl,hN',hr,hg,hS,hV⟩:=h;exact ⟨A1,n,c1,gi,A2,nr,c2,rs,hrow,by omega,ho.rd,fun b off e=>(by subst e;exact ho.own_lo b (by simp [Value.ownBlock])),hR,hl,Nat.le_trans hN' hN,hr.more hP,hg,fun h=>hV (by omega)⟩
set_option maxHeartbeats 20000000 in
theorem l20Puzzle_any (B G P:Nat) (m:Int) (w:World) (h:Rdr w B G P) (hBG:B<=G) (hP:P<=100) (hm:m<=1000000):
 Calls Tryz.prog 58 #[.pointer (some ⟨G,0,none⟩),.int .i64 m] w (DrewPuz w B G (P+800) m):=by
 have Hone:=Lib.hid puz_one;have Hi:=Lib.hid puz_info;have hGw:=h.lt
 have hBw:B<=w.heap.size:=by omega
 have hr0:=h.alloc hBw (.cells #[.int .i64 0,.slice none 0 0,.slice none 0 0] 26);have hg0:w.grownBy (w.alloc (.cells #[.int .i64 0,.slice none 0 0,.slice none 0 0] 26)) (some G):=only_alloc (World.grownBy.refl w _) _
 go_enter Tryz.func58,Tryz.ntmps58
 go_wp2_with fail
 obtain ⟨w0,hW⟩:∃ w0,w0=w.alloc (.cells #[.int .i64 0,.slice none 0 0,.slice none 0 0] 26):=⟨_,rfl⟩;rw [<- hW] at hr0 hg0 ⊢
 have hR0:w0.heap[w.heap.size]? =some (.cells #[.int .i64 0,.slice none 0 0,.slice none 0 0] 26):=by rw [hW];exact heap_alloc_new w _
 have hRw:w0.heap.size=w.heap.size+1:=by rw [hW];simp
 clear hW;obtain ⟨R0,hR⟩:∃ R0,R0=w.heap.size:=⟨_,rfl⟩;rw [<- hR] at hR0 hRw hGw hBw ⊢;have HR:=Lib.hid hR;clear hR;refine (l20Size_any B G P 0 _ hr0 hBG (by omega) (by omega)).mono ?_;rintro e w1 ⟨s,rfl,⟨_,_,hs⟩,hr1,hg1⟩;obtain ⟨hs2,hs4⟩:=hs (by omega);clear hs
 go_wp2_with fail
 refine (l20Solved_any B G (P+2) s _ hr1 hBG (by omega) hs2 hs4).mono ?_;rintro e w2 ⟨Ag,ng,cg,g,rfl,hog,hng,hgs,hr2,hg2⟩;have hgr2:w0.grownBy w2 (some G):=hg1.trans hg2;have hR2:w2.heap[R0]? =some (.cells #[.int .i64 0,.slice none 0 0,.slice none 0 0] 26):=(hgr2.block R0 (by omega) (by intro e;injection e with e;omega)).trans hR0;obtain ⟨q4,q16⟩:=sq_bd hs2 hs4
 have hng1:0<ng/\ng<=16:=by omega
 have hB2:B<=w2.heap.size:=by have:=hr2.lt;omega
 have hrdg:=hog.rd;have hmade:Ow (w2.alloc (.cells #[] 3)) w2.heap.size (some ⟨w2.heap.size,0,none⟩) 0 0 []:=Ow.made0 _ _ (Nat.le_refl _);have hrdg':Rd (w2.alloc (.cells #[] 3)) w2.heap.size Ag ng g:=hrdg.below ((Below.refl _ _).alloc (Nat.le_refl _) _)
 go_wp2_with (first|(at_builtin;refine push_new rfl (.tmp 21) (.tmp 22) rfl w2.heap.size (some ⟨w2.heap.size,0,none⟩) Ag ng cg w2.heap.size g rfl rfl hmade hrdg' (by omega) (by simp) ?_;intro A1 c1 w3 ho3 hg3)|(refine wpList_store_row rfl 26 _ _ rfl w3.heap.size #[.int .i64 s,.slice A1 ng c1,.slice none 0 0] rfl rfl 26 #[.int .i64 0,.slice none 0 0,.slice none 0 0] (heap_alloc_new w3 _) (Hi.out _ _ _ _ _ _ _) rfl (Hone.out _ _ _ _ _ _ _) ?_)|fail)
 have hb3:Below w2.heap.size w2 w3:=((Below.refl _ _).alloc (Nat.le_refl _) _).trans (below_ownR hmade (Nat.le_refl _) (by simp) hg3);have hbP:Below w2.heap.size w2 (w3.alloc (.cells #[.int .i64 0,.slice none 0 0,.slice none 0 0] 26)):=hb3.alloc hb3.size _;have hPz:w2.heap.size<=w3.heap.size:=hb3.size;have hG2:G<w2.heap.size:=hr2.lt
 have hst:PSt w2 B G (P+4) w3.heap.size s 0 ((w3.alloc (.cells #[.int .i64 0,.slice none 0 0,.slice none 0 0] 26)).setRow w3.heap.size #[.int .i64 s,.slice A1 ng c1,.slice none 0 0]):=
  ⟨A1,ng,c1,g,none,0,0,[],setRow_heap _ _ _ _ _ _ (heap_alloc_new w3 _),hng,Ow.setX (World.ownsRow.alloc ho3 _) (heap_alloc_new w3 _),⟨[],World.ownsRow_nil _ _ _ _,fun i hi=>absurd hi (by omega)⟩,rfl,Nat.le_refl _,hr2.belowN (setRow_below5 hbP hPz) hG2 hB2,grown_low (World.grownBy.refl _ _) (setRow_below5 hbP hPz),SpQ.nil,fun _=>pv_nil (solved_gv hs2 hs4 hng hgs)⟩
 obtain ⟨w4,hw4⟩:∃ w4,(w3.alloc (.cells #[.int .i64 0,.slice none 0 0,.slice none 0 0] 26)).setRow w3.heap.size #[.int .i64 s,.slice A1 ng c1,.slice none 0 0]=w4:=⟨_,rfl⟩;rw [hw4] at hst ⊢;clear hw4 hbP hmade hrdg';obtain ⟨Pz,hPe⟩:∃ Pz,w3.heap.size=Pz:=⟨_,rfl⟩;rw [hPe] at hst hPz ⊢;clear hPe hb3 hg3 ho3;obtain ⟨gv2,hG1⟩:gv g s=true/\G<w1.heap.size:=⟨solved_gv hs2 hs4 hng hgs,hr1.lt⟩;have HGr:=Lib.hid (fun wr (hgw:w2.grownBy wr (some G))=>(hog.keptG hgw hG1));have HR2:=Lib.hid (fun wr (hgw:w2.grownBy wr (some G))=>((hgw.block R0 (by have:=hgr2.size;omega) (by intro e;injection e with e;omega)).trans hR2:wr.heap[R0]? =some (.cells #[.int .i64 0,.slice none 0 0,.slice none 0 0] 26)))
 have hneG:∀ b off,Ag=some ⟨b,off,none⟩->b≠G:=fun b off e=>by
  subst e;have:=hog.own_lo b (by simp [Value.ownBlock]);omega
 obtain ⟨_,_,_,_,_,_,_,_,_,_,_,_,_,_,hr4,hg4,_,_⟩:=id hst;refine (pick_any B G (P+4) 5 _ hr4 hBG (by omega)).mono ?_;rintro e w5 ⟨v,rfl,⟨v0,v1,_⟩,hr5,hg5⟩;have hv5:=v1 (by omega);clear v1;obtain ⟨v,rfl⟩:=Int.eq_ofNat_of_zero_le v0;have hst5:PSt w2 B G (P+5) Pz s 0 w5:=pst_pick hst hG2 hPz hg5 hr5
 go_wp2
 go_loopw [8] (fun kv wr=>∃ u q:Nat,kv=.int .i64 q/\u+q=v/\PSt w2 B G (P+5+100*u) Pz s u wr) (fun kv _=>(intOf kv).toNat)
 case atStart=>exact ⟨0,v,rfl,by omega,hst5⟩
 case round=>
  obtain ⟨u,q,rfl,huq,A1,n,c1,gi,A2,nr,c2,rs,hrow,hn,ho,hR,hl,hN,hr,hgw,hSp,hV⟩:=hrel
  by_cases hq:0<q
  ·have hqI:(0:Int)<(q:Int):=by omega
   obtain ⟨x0,x1,x2⟩:PBox wr Pz s A1 n c1 A2 nr c2:=⟨cell_of_row _ _ 0 _ _ (0,0) hrow,cell_of_row _ _ 1 _ _ (0,0) hrow,cell_of_row _ _ 2 _ _ (0,0) hrow⟩
   go_wp2
   have hP1:P+5+100*u<=1000:=(by omega);have hu4:nr<=5:=(by omega);refine wp_region_dsR [31,32,33,34,35,36,37,38,39] (RuleG w2 G Pz s Ag ng cg A2 nr c2 (Value.slice A1 n c1).ownBlock gi 0) (RelP w2 B G Pz (P+5+100*u+100)) (RuleEff w2 G nr c2 A2) (RuleC w2 B G (P+5+100*u) nr c2 A2 rs (Value.slice A1 n c1).ownBlock) ?C0 ?refl (fun _ _ h h'=>relP_trans h h') (by kernel_rfl) (by kernel_rfl) (by simp) (fun j i v w w' hji _ he hg=>ruleG_eff hG2 j i v w w' hji he hg) ?step ?last
   case C0=>exact fun j=>⟨fun _=>hr,fun _=>⟨hR,hSp⟩⟩
   case refl=>exact relP_grown hG2 hPz (grown_drew (World.grownBy.refl wr _)) (fun h=>h)
   case step=>
    intro i o a w' K hi hoo hrel hfr hpre hC hK;have e0:a.eval (.tmp 0)=.pointer (some ⟨G,0,none⟩):=hfr 0 (by simp);have e5:a.eval (.tmp 5)=.int .i64 s:=hfr 5 (by simp);have e6:a.eval (.tmp 6)=.slice Ag ng cg:=hfr 6 (by simp);have e7:a.eval (.tmp 7)=.pointer (some ⟨Pz,0,none⟩):=hfr 7 (by simp);have hrow':=hrel.2.2.1 _ hrow;have hsW:=Nat.le_trans hgw.size hrel.1;have hgw':=hrel.2.1 hgw;have hi9:i<9:=hi;have:i=0\/i=1\/i=2\/i=3\/i=4\/i=5\/i=6\/i=7\/i=8:=(by omega)
    rcases this with rfl|rfl|rfl|rfl|rfl|rfl|rfl|rfl|rfl
    all_goals
     simp only [List.getElem?_toArray,List.getElem?_cons_zero,List.getElem?_cons_succ,Option.some.injEq] at hoo;subst hoo
    ·refine oper_val (v:=.pointer (some ⟨Pz,2,none⟩)) (w':=w') ?_ (hK _ w' (relP_refl w') (World.grownBy.refl _ _) (fun j _ h=>h) rfl);unfold execOp;simp only [e7]
     go_simp
    ·have p0:a.eval (.tmp 31)=.pointer (some ⟨Pz,2,none⟩):=hpre ⟨0,.data⟩ (by simp) rfl;have c2':=cell_of_row _ _ 2 _ _ (0,0) hrow';refine oper_val (v:=.slice A2 nr c2) (w':=w') ?_ (hK _ w' (relP_refl w') (World.grownBy.refl _ _) (fun j _ h=>h) rfl);unfold execOp;simp only [p0]
     go_simp
    ·refine oper_val (v:=.pointer (some ⟨G,0,none⟩)) (w':=w') ?_ (hK _ w' (relP_refl w') (World.grownBy.refl _ _) (fun j _ h=>h) rfl);unfold execOp;simp only [e0]
     go_simp
    ·refine oper_val (v:=.slice Ag ng cg) (w':=w') ?_ (hK _ w' (relP_refl w') (World.grownBy.refl _ _) (fun j _ h=>h) rfl);unfold execOp;simp only [e6]
     go_simp
    ·refine oper_val (v:=.int .i64 s) (w':=w') ?_ (hK _ w' (relP_refl w') (World.grownBy.refl _ _) (fun j _ h=>h) rfl);unfold execOp;simp only [e5]
     go_simp
    ·have p33:a.eval (.tmp 33)=.pointer (some ⟨G,0,none⟩):=hpre ⟨2,.data⟩ (by simp) rfl;have p34:a.eval (.tmp 34)=.slice Ag ng cg:=hpre ⟨3,.data⟩ (by simp) rfl;have p35:a.eval (.tmp 35)=.int .i64 s:=hpre ⟨4,.data⟩ (by simp) rfl;refine oper_call (f:=107) (args:= #[.pointer (some ⟨G,0,none⟩),.slice Ag ng cg,.int .i64 s,.int .i64 0]) ?_ (l20Rule_any B G (P+5+100*u) Ag cg ng w'.heap.size g s 0 w' (hC.1 rfl) hBG hP1 (HGr.out _ hgw').rd (Nat.le_refl _) hneG gv2 (by omega)) ?_
     ·unfold execOp
      go_simp
      exact ⟨by simpa [Act.eval] using p33,by simpa [Act.eval] using p34,by simpa [Act.eval] using p35⟩
     ·rintro e w6 ⟨k6,A6,n6,c6,v6,xs6,rfl,ho6,hn6,hrv6,hr6,hg6⟩;refine ⟨_,rfl,hK _ w6 (relP_grown hG2 hPz hg6 (fun _=>hr6)) hg6 (fun j hj h=>⟨fun e=>absurd e hj,fun e=>⟨(h.2 e).1.keptL hg6 hG2,(h.2 e).2.keptL hg6 hG2⟩⟩) ⟨k6,A6,n6,c6,v6,xs6,rfl,ho6.mono hsW,hn6,hrv6,fun g hg e=>by have q1:=ho6.own_lo g hg;have q2:=ho.own_hi g e;have q3:=hrel.1;omega⟩⟩
    ·obtain ⟨k6,A6,n6,c6,v6,xs6,p36,ho6,hn6,hq6⟩:∃ k A n' c u xs,a.eval (.tmp 36)=.agg #[.int .i64 k,.slice A n' c,.int .i64 u]/\Ow w' w2.heap.size A n' c xs/\n'<=5/\(_->rv k xs u s=true)/\∀ g,(Value.slice A n' c).ownBlock=some g->(Value.slice A1 n c1).ownBlock≠some g:=hpre ⟨5,.data⟩ (by simp) rfl;have hgA:w'.grownBy (w'.alloc (.cells #[.int .i64 k6,.slice A6 n6 c6,.int .i64 v6] 88)) (some G):=only_alloc (World.grownBy.refl _ _) _;refine oper_val (v:=.slice (some ⟨w'.heap.size,0,none⟩) 1 1) (w':=w'.alloc (.cells #[.int .i64 k6,.slice A6 n6 c6,.int .i64 v6] 88)) ?_ (hK _ _ (relP_grown hG2 hPz hgA (fun h=>h.alloc (by omega) _)) hgA (fun j hj h=>⟨fun e=>(h.1 e).alloc (by omega) _,fun e=>⟨(h.2 e).1.keptL hgA hG2,(h.2 e).2.keptL hgA hG2⟩⟩) ⟨_,k6,A6,n6,c6,v6,xs6,rfl,heap_alloc_new _ _,World.ownsRow.alloc ho6 _,hn6,?_,by omega,hq6⟩)
     ·have p36':a.tmps[36]?.getD undef=.agg #[.int .i64 k6,.slice A6 n6 c6,.int .i64 v6]:=(by simpa [Act.eval] using p36);unfold execOp
      go_simp
     ·intro e;obtain ⟨vs,hown,_⟩:=id hR;have:=(World.ownsRow.lt hown _ e.symm).2;have:=hrel.1;omega
    ·have p32:a.eval (.tmp 32)=.slice A2 nr c2:=hpre ⟨1,.data⟩ (by simp) rfl;obtain ⟨b,k6,A6,n6,c6,v6,xs6,p37,hlit,ho6,hn6,hb6,_,hv6,hX6⟩:∃ b k A n' c u xs,a.eval (.tmp 37)=.slice (some ⟨b,0,none⟩) 1 1/\w'.heap[b]? =some (.cells #[.int .i64 k,.slice A n' c,.int .i64 u] 88)/\Ow w' w2.heap.size A n' c xs/\n'<=5/\some b≠(Value.slice A2 nr c2).ownBlock/\b≠G/\(_->rv k xs u s=true)/\∀ g,(Value.slice A n' c).ownBlock=some g->(Value.slice A1 n c1).ownBlock≠some g:=hpre ⟨6,.data⟩ (by simp) rfl;have hR7:=hC.2 rfl;obtain ⟨vs7,hown7,hin7,hcb7⟩:=hR7.1.with_ hR7.2
     obtain ⟨A7,c7,w7,hrun,⟨q1,q1'⟩,q2⟩:=run_push_oneV 24 w2.heap.size A2 nr c2 b rs k6 v6 A6 n6 c6 xs6 hl vs7 hown7 hin7 ho6 hlit (by omega) (by omega) hsW;refine oper_val (v:=.slice A7 (nr+1) c7) (w':=w7) ?_ (hK _ w7 (relP_own hG2 hB2 hown7 q2) ⟨q2,vs7,hown7⟩ (fun j hj h=>⟨fun e=>(h.1 e).belowN (below_ownR hown7 (Nat.le_refl _) hsW q2) hG2 hB2,fun e=>absurd e hj⟩) ⟨A7,c7,_,rfl,⟨_,q1,q1'⟩,by simp [hl],⟨_,q1,hcb7.app hown7.1 (CbV.one hX6)⟩,fun h=>pv_app (hV (by omega)) (by simp only [List.length_cons,List.length_nil];omega) (fun i hi=>by obtain rfl:i=0:=(by simpa using hi);exact hv6 h)⟩)
     unfold execOp;simp only [resolve,invoke,builtin,Sem.run_bind,Sem.run_pure,Result.andThen_ok,List.map_toArray,List.map_cons,List.map_nil,p32,p37,hrun]
    ·refine oper_val (v:=.pointer (some ⟨Pz,2,none⟩)) (w':=w') ?_ (hK _ w' (relP_refl w') (World.grownBy.refl _ _) (fun j _ h=>h) rfl);unfold execOp;simp only [e7]
     go_simp
   case last=>
    intro o a w5 hoo hrel hdef htm hfr hpre;simp only [List.length_cons,List.length_nil,Nat.reduceAdd,List.getElem?_toArray,List.getElem?_cons_zero,List.getElem?_cons_succ,Option.some.injEq] at hoo;subst hoo;have g31:a.tmps.getD 31 undef=.pointer (some ⟨Pz,2,none⟩):=hpre 0 (by simp);have g32:a.tmps.getD 32 undef=.slice A2 nr c2:=hpre 1 (by simp);have g33:a.tmps.getD 33 undef=.pointer (some ⟨G,0,none⟩):=hpre 2 (by simp);have g34:a.tmps.getD 34 undef=.slice Ag ng cg:=hpre 3 (by simp);have g35:a.tmps.getD 35 undef=.int .i64 s:=hpre 4 (by simp);obtain ⟨k6,A6,n6,c6,v6,xs6,g36,_,_⟩:∃ k A n' c u xs,a.tmps.getD 36 undef=.agg #[.int .i64 k,.slice A n' c,.int .i64 u]/\Ow w5 w2.heap.size A n' c xs/\_:=hpre 5 (by simp)
    obtain ⟨b7,_,_,_,_,_,_,g37,_⟩:∃ b k A n' c u xs,a.tmps.getD 37 undef=.slice (some ⟨b,0,none⟩) 1 1/\w5.heap[b]? =some (.cells #[.int .i64 k,.slice A n' c,.int .i64 u] 88)/\Ow w5 w2.heap.size A n' c xs/\_:=hpre 6 (by simp);obtain ⟨A7,c7,rs7,g38,ho7,hl7,hS7,hV7⟩:∃ A' c' rs',a.tmps.getD 38 undef=.slice A' (nr+1) c'/\OwR w5 w2.heap.size (.slice A' (nr+1) c') rs' (nr+1)/\rs'.length=nr+1/\SpQ w5 w2.heap.size (.slice A' (nr+1) c') (nr+1) (fun g=>(Value.slice A1 n c1).ownBlock≠some g)/\(_->pvB s gi rs'=true):=hpre 7 (by simp);have g39:a.tmps.getD 39 undef=.pointer (some ⟨Pz,2,none⟩):=hpre 8 (by simp)
    have h38:a.eval (.tmp 38)=.slice A7 (nr+1) c7:=g38;have h39:a.eval (.tmp 39)=.pointer (some ⟨Pz,2,none⟩):=g39;have hrow5:=hrel.2.2.1 _ hrow;have hc5:=cell_of_row _ _ 2 _ _ (0,0) hrow5;have hf5:=frozen_of_row _ Pz 2 _ _ hrow5;have hg5:=hrel.2.1 hgw;have hr5:=hrel.2.2.2.2 hgw.size (hr.more (by omega));have ho5:=hrel.2.2.2.1 _ _ _ _ ho
    have hnew:PSt w2 B G (P+5+100*u+100) Pz s (u+1) (w5.setCell ⟨Pz,2,none⟩ (.slice A7 (nr+1) c7)):=
     ⟨A1,n,c1,gi,A7,nr+1,c7,rs7,heap_setCell_same w5 Pz 2 _ _ _ hrow5,hn,ownsRow_cellX ho5 hrow5 (by decide),ho7.cellX hrow5,hl7,by omega,hr5.belowN ((Below.refl _ _).setCell hPz _) hG2 hB2,grown_low hg5 ((Below.refl _ _).setCell hPz _),hS7.cellX hrow5,fun _=>hV7 (by decide)⟩
    refine ⟨w5.setCell ⟨Pz,2,none⟩ (.slice A7 (nr+1) c7),?_,?_⟩
    ·unfold execOp;simp only [h38,h39]
     go_simp
    ·have key:=htm;simp only [List.foldl_cons,List.foldl_nil,g31,g32,g33,g34,g35,g36,g37,g38,g39,List.setIfInBounds_toArray,List.set_cons_succ,List.set_cons_zero] at key;clear htm hfr hpre g31 g32 g33 g34 g35 g36 g37 g38 g39 h38 h39;obtain ⟨tm,df⟩:=a
     dsimp only at key hdef
     subst key hdef
     go_wp2
     refine ⟨⟨u+1,q-1,by rw [show ((q-1:Nat):Int)=(q:Int)-1 by omega],by omega,by rw [show P+5+100*(u+1)=P+5+100*u+100 by omega];exact hnew⟩,by simp [intOf];omega⟩
  ·obtain rfl:q=0:=by omega
   obtain rfl:u=v:=by omega
   have hstA:PSt w2 B G (P+510) Pz s 5 wr:=⟨A1,n,c1,gi,A2,nr,c2,rs,hrow,hn,ho,hR,hl,by omega,hr.more (by omega),hgw,hSp,fun _=>hV (by omega)⟩;clear hrow hn ho hR hl hN hr hSp hV
   go_upto_region 8 with fail
   go_cut [46] from 15 (fun bv wx=>∃ bb:Bool,bv=.bool bb/\Hid (bb=true->s=4)/\PSt w2 B G (P+511) Pz s 5 wx)
   case first=>
    by_cases hs44:s=4
    ·subst hs44
     go_wp2_with fail
     obtain ⟨_,_,_,_,_,_,_,_,_,_,_,_,_,_,hrA,hgA,_,_⟩:=id hstA;refine (pick_any B G (P+510) 3 _ hrA hBG (by omega)).mono ?_;rintro e w6 ⟨v6,rfl,⟨y0,y1,_⟩,hr6,hg6⟩
     go_wp2
     go_meet
     case rel=>exact ⟨_,rfl,Lib.hid (fun _=>by first|trivial|rfl),pst_pick hstA hG2 hPz hg6 hr6⟩
    ·go_wp2
     go_meet
     case rel=>first|exact ⟨_,rfl,Lib.hid (fun h=>absurd h (by decide)),pst_more hstA (by omega) (Nat.le_refl _)⟩|exact ⟨Lib.hid (fun h=>absurd h (by decide)),pst_more hstA (by omega) (Nat.le_refl _)⟩
   case rest=>
    obtain ⟨bb,rfl,hb4,hstB⟩:=hcut
    go_upto_if 46 with fail
    go_cut [] from 15 (fun wx=>PSt w2 B G (P+511) Pz s 9 wx)
    case first=>
     cases bb
     ·go_wp2
      go_meet
      case rel=>exact pst_more hstB (Nat.le_refl _) (by omega)
     ·obtain rfl:=hb4.out rfl;obtain ⟨B1,nB,d1,giB,B2,nrB,d2,rsB,hrowB,hnB,hoB,hRB,hlB,hNB,hrB,hgB,hSB,hVB⟩:=id hstB;obtain ⟨vsB,hownB,hinB⟩:=id hRB;have hmp:(mapTo boxC 16).length=16:=(by decide)
      go_wp2_with (first
       |(go_at_call 109;refine (specBoxRegions _).mono ?_;rintro e w10 ⟨A10,c10,rfl,ho10,hb10⟩;rw [hmp] at ho10 ⊢)
       |(go_at_call 108;refine (specRegionRules A10 c10 16 w10.heap.size (mapTo boxC 16) 4 _ ho10.rd (Nat.le_refl _) (by omega)).mono ?_;rintro e w11 ⟨A11,c11,rfl,ho11,hb11⟩;rw [rr_box] at ho11 ⊢))
      have hb0B:=hb10.trans (hb11.mono hb10.size);have hg11:w2.grownBy w11 (some G):=grown_low hgB (hb0B.mono hgB.size);have hrg:=(HGr.out _ hg11).rd;have hrr:=ho11.rd rr_box;have hm4:ng<=1099511627776:=(by omega);refine (specPuzzleSolved 4 Ag ng cg w11.heap.size g A11 4 c11 w11.heap.size _ Ag ng cg w11.heap.size g _ ⟨hrg,Nat.le_refl _,hm4,hrr,Nat.le_refl _,by omega⟩ hrg (Nat.le_refl _) hm4).mono ?_;rintro e w12 ⟨rfl,hb12⟩;have hb0C:=hb0B.trans (hb12.mono hb0B.size);cases hps:psB 4 g (rrL (mapTo boxC 16) 4 16) g
      ·go_wp2
       go_meet
       case rel=>exact pst_more (pst_below hstB hB2 hb0C) (Nat.le_refl _) (by omega)
      ·have hstC:=pst_below hstB hB2 hb0C;have hrowC:=(hb0C.block Pz (Array.getElem?_eq_some_iff.1 hrowB).1).trans hrowB;have hRC:=hRB.below hb0C;obtain ⟨vsC,hownC,hinC,hcbC⟩:=hRC.with_ (hSB.below hb0C);obtain ⟨vs12,hown12,hin12⟩:=ho11.below hb12
       have hin12':InR w12 w2.heap.size (.slice B2 nrB d2) (rrL (mapTo boxC 16) 4 16) vs12 4:=fun i hi=>by
        obtain ⟨A',c',e0,e1,e2,e3,e4,_⟩:=hin12 i hi;exact ⟨A',c',e0,e1,e2,e3.mono (Nat.le_trans hgB.size hb10.size),e4,ne_ty e3 hownC (by decide)⟩
       have hc12:=cell_of_row _ _ 2 _ _ (0,0) hrowC;have hs12:=Nat.le_trans hgB.size hb0C.size
       go_wp2_with (at_builtin;refine push_rulesV rfl (.tmp 58) (.tmp 59) rfl w2.heap.size B2 nrB d2 rsB vsC A11 4 c11 _ vs12 w10.heap.size rfl rfl hlB hownC hinC hown12 hin12' (.inl (by omega)) (by omega) (by omega) hs12 ?_;intro A7 c7 w13 hR13o hR13i hg13;have hrow13:=row_own hrowC hownC (by decide) hg13;have hf13:=frozen_of_row _ Pz 2 _ _ hrow13;have hc13:=cell_of_row _ _ 2 _ _ (0,0) hrow13)
       have hcb12:CbV vs12 4 (fun g=>(Value.slice B1 nB d1).ownBlock≠some g):=fun i A' n' c' hi he g hg e=>by
        obtain ⟨A2',c2',_,e1,_,ho',_⟩:=hin12 i hi;rw [he] at e1
        injection e1 with e1
        rw [e1] at hg;have q1:=ho'.own_lo g hg;have q2:=hoB.own_hi g e;have q3:=hb10.size;omega
       have hS13:SpQ w13 w2.heap.size (.slice A7 (nrB+4) c7) (nrB+4) (fun g=>(Value.slice B1 nB d1).ownBlock≠some g):=⟨_,hR13o,hcbC.app hownC.1 hcb12⟩
       go_meet
       case rel=>
        exact pst_push hrowB hnB hoB hRB hgB hG2 hPz hB2 (hrB.belowN hb0C hrB.lt (Nat.le_trans hB2 hgB.size)) (grown_low (World.grownBy.refl _ _) hb0C) ⟨_,hR13o,hR13i⟩ (by simp [hlB,rr_box]) (by omega) hg13 hS13 (fun _=>pv_app (hVB (by omega)) (by rw [rr_box];omega) (fun i hi=>rr_valid i (by rw [rr_box] at hi;exact hi)))
    case rest=>
     have hstD:=hcut
     go_upto_region 12 with fail
     go_cut [64] from 15 (fun bv wx=>∃ bb:Bool,bv=.bool bb/\PSt w2 B G (P+512) Pz s 9 wx)
     case first=>
      obtain ⟨_,_,_,_,_,_,_,_,_,_,_,_,_,_,hrD,hgD,_,_⟩:=id hstD
      go_wp2_with fail
      refine (pick_any B G (P+511) 3 _ hrD hBG (by omega)).mono ?_;rintro e w6 ⟨v6,rfl,⟨y0,y1,_⟩,hr6,hg6⟩
      go_wp2
      go_meet
      case rel=>exact ⟨_,rfl,pst_pick hstD hG2 hPz hg6 hr6⟩
     case rest=>
      obtain ⟨bb,rfl,hstE⟩:=hcut
      go_upto_if 64 with fail
      go_cut [] from 15 (fun wx=>PSt w2 B G (P+600) Pz s 9 wx)
      case first=>
       obtain ⟨A1,n,c1,gi,A2,nr,c2,rs,hrow,hn,ho,hR,hl,hN,hr,hgE,hSE,hVE⟩:=id hstE;obtain ⟨x0,x1,x2⟩:PBox wc Pz s A1 n c1 A2 nr c2:=⟨cell_of_row _ _ 0 _ _ (0,0) hrow,cell_of_row _ _ 1 _ _ (0,0) hrow,cell_of_row _ _ 2 _ _ (0,0) hrow⟩;cases bb
       ·go_wp2_with fail
        refine (pick_any B G (P+512) 3 _ hr hBG (by omega)).mono ?_;rintro e w6 ⟨v6,rfl,⟨z0,z1,_⟩,hr6,hg6⟩;have hz1:=z1 (by omega);clear z1;have hst6:=pst_pick hstE hG2 hPz hg6 hr6;clear x0 x1 x2
        go_wp2
        go_loopw [14] (fun kv wx=>∃ k:Nat,k<=ng/\kv=.int .i64 k/\PSt w2 B G (P+513+k) Pz s 9 wx) (fun kv _=>ng-(intOf kv).toNat)
        case atStart=>exact ⟨0,Nat.zero_le _,rfl,hst6⟩
        case round=>
         obtain ⟨k,hk,rfl,hstk⟩:=hrel;obtain ⟨B1,nB,d1,giB,B2,nrB,d2,rsB,hrowB,hnB,hoB,hRB,hlB,hNB,hrB,hgB,hSB,hVB⟩:=id hstk
         obtain rfl:nB=ng:=by omega
         obtain ⟨x0,x1,x2⟩:PBox wr Pz s B1 nB d1 B2 nrB d2:=⟨cell_of_row _ _ 0 _ _ (0,0) hrowB,cell_of_row _ _ 1 _ _ (0,0) hrowB,cell_of_row _ _ 2 _ _ (0,0) hrowB⟩
         by_cases hlt:k<nB
         ·have hltI:(k:Int)<(nB:Int):=(by omega);obtain ⟨g1,rfl,hg1,hg1w⟩:=hoB.form (by omega)
          go_wp2_with fail
          refine (pick_any B G (P+513+k) 4 _ hrB hBG (by omega)).mono ?_;rintro e w7 ⟨v7,rfl,⟨y0,y1,_⟩,hr7,hg7⟩;have hst7:=pst_pick hstk hG2 hPz hg7 hr7;have hrow7:=(hg7.block Pz (Array.getElem?_eq_some_iff.1 hrowB).1 (by intro e;injection e with e;omega)).trans hrowB;have ho7:=hoB.keptG hg7 hG2;obtain ⟨hc7,hf7⟩:=ho7.cell hlt;have hstS:=pst_store hrow7 hnB ho7 (hRB.keptL hg7 hG2) hlB hNB hr7 (hgB.trans hg7) (hSB.keptL hg7 hG2) hVB hG2 hB2 k 0 (by omega);obtain ⟨y0',y1',y2'⟩:PBox w7 Pz s (some ⟨g1,0,none⟩) nB d1 B2 nrB d2:=⟨cell_of_row _ _ 0 _ _ (0,0) hrow7,cell_of_row _ _ 1 _ _ (0,0) hrow7,cell_of_row _ _ 2 _ _ (0,0) hrow7⟩
          go_wp2
          all_goals
           refine ⟨⟨k+1,hlt,by simp,?_⟩,by simp [intOf];omega⟩;rw [show P+513+(k+1)=P+513+k+1 by omega]
           first|exact hstS|exact hst7
         ·obtain rfl:k=nB:=by omega
          go_wp2
          go_meet
          case rel=>exact pst_more hstk (by omega) (Nat.le_refl _)
       ·have hMM:=specMakeMinimal s A1 n c1 wc.heap.size gi A2 nr c2 wc.heap.size rs wc ⟨ho.rd,Nat.le_refl _,by omega,hR.rd hl,Nat.le_refl _,by omega⟩ (by omega)
        go_wp2_with fail
        refine hMM.mono ?_;rintro e w6 ⟨hb6,hpost⟩;have hrow6:=(hb6.block Pz (Array.getElem?_eq_some_iff.1 hrow).1).trans hrow
        rcases hpost with ⟨rfl,_⟩|⟨_,B1,d1,B2,d2,K,rfl,hoM,hKM,hRM,hSM⟩
        ·go_wp2_with (refine wpList_store_row rfl 26 _ _ rfl w6.heap.size #[.int .i64 0,.slice none 0 0,.slice none 0 0] rfl rfl 26 #[.int .i64 0,.slice none 0 0,.slice none 0 0] (heap_alloc_new w6 _) (Hi.out _ _ _ _ _ _ _) rfl (Hone.out _ _ _ _ _ _ _) ?_)
         go_meet
         case rel=>exact pst_more (pst_below hstE hB2 (setRow_below5 (hb6.alloc hb6.size _) hb6.size)) (by omega) (Nat.le_refl _)
        ·have hPz6:Pz<w6.heap.size:=(Array.getElem?_eq_some_iff.1 hrow6).1
         have hrow7:((w6.alloc (.cells #[.int .i64 0,.slice none 0 0,.slice none 0 0] 26)).setRow w6.heap.size #[.int .i64 s,.slice B1 n d1,.slice B2 nr d2]).heap[Pz]? =some (.cells #[.int .i64 s,.slice A1 n c1,.slice A2 nr c2] 26):=by
          refine Eq.trans ?_ ((Below.heap_alloc w6 (.cells #[.int .i64 0,.slice none 0 0,.slice none 0 0] 26) Pz hPz6).trans hrow6);unfold World.setRow;simp only [Array.getElem?_modify];rw [if_neg (by omega)]
         have hrowX:=setRow_heap (w:=w6.alloc (.cells #[.int .i64 0,.slice none 0 0,.slice none 0 0] 26)) w6.heap.size _ #[.int .i64 s,.slice B1 n d1,.slice B2 nr d2] 26 _ (heap_alloc_new w6 _);have hb7:Below wc.heap.size wc ((w6.alloc (.cells #[.int .i64 0,.slice none 0 0,.slice none 0 0] 26)).setRow w6.heap.size #[.int .i64 s,.slice B1 n d1,.slice B2 nr d2]):=setRow_below5 (hb6.alloc hb6.size _) hb6.size;have ho7:=Ow.setX (cs':= #[.int .i64 s,.slice B1 n d1,.slice B2 nr d2]) (World.ownsRow.alloc (hoM.mono (Nat.le_trans hgE.size hKM)) (.cells #[.int .i64 0,.slice none 0 0,.slice none 0 0] 26)) (heap_alloc_new w6 _)
         have hR7:=OwR.setX (cs':= #[.int .i64 s,.slice B1 n d1,.slice B2 nr d2]) ((hRM.mono hgE.size).below ((Below.refl _ _).alloc (Nat.le_refl _) (.cells #[.int .i64 0,.slice none 0 0,.slice none 0 0] 26))) (heap_alloc_new w6 _);have hS7:=SpQ.setX (cs':= #[.int .i64 s,.slice B1 n d1,.slice B2 nr d2]) ((hSM.mono hgE.size).below ((Below.refl _ _).alloc (Nat.le_refl _) (.cells #[.int .i64 0,.slice none 0 0,.slice none 0 0] 26))) (heap_alloc_new w6 _);obtain ⟨y0,y1,y2⟩:PBox ((w6.alloc (.cells #[.int .i64 0,.slice none 0 0,.slice none 0 0] 26)).setRow w6.heap.size #[.int .i64 s,.slice B1 n d1,.slice B2 nr d2]) w6.heap.size s B1 n d1 B2 nr d2:=⟨cell_of_row _ _ 0 _ _ (0,0) hrowX,cell_of_row _ _ 1 _ _ (0,0) hrowX,cell_of_row _ _ 2 _ _ (0,0) hrowX⟩
         have hst7:PSt w2 B G (P+600) Pz s 9 ((((w6.alloc (.cells #[.int .i64 0,.slice none 0 0,.slice none 0 0] 26)).setRow w6.heap.size #[.int .i64 s,.slice B1 n d1,.slice B2 nr d2])).setRow Pz #[.int .i64 s,.slice B1 n d1,.slice B2 nr d2]):=by
          refine ⟨B1,n,d1,_,B2,nr,d2,rs,setRow_heap _ _ _ _ _ _ hrow7,hn,ho7.setX hrow7,hR7.setX hrow7,hl,hN,?_,?_,(hS7.setX hrow7).imp (fun g hg e=>by have q1:=hoM.own_lo g e;omega),fun _=>pv_min (hVE (by omega)) n⟩
          ·exact ((hr.belowN hb7 hr.lt (Nat.le_trans hB2 hgE.size)).belowN (setRow_below5 (Below.refl _ _) hPz) hG2 hB2).more (by omega)
          ·exact grown_low (grown_low hgE (hb7.mono hgE.size)) (setRow_below5 (Below.refl _ _) hPz)
         go_wp2_with (first|(refine wpList_store_row rfl 26 _ _ rfl w6.heap.size #[.int .i64 s,.slice B1 n d1,.slice B2 nr d2] rfl rfl 26 #[.int .i64 0,.slice none 0 0,.slice none 0 0] (heap_alloc_new w6 _) (Hi.out _ _ _ _ _ _ _) rfl (Hone.out _ _ _ _ _ _ _) ?_)|(refine wpList_store_row rfl 26 _ _ rfl Pz #[.int .i64 s,.slice B1 n d1,.slice B2 nr d2] rfl rfl 26 #[.int .i64 s,.slice A1 n c1,.slice A2 nr c2] hrow7 (Hi.out _ _ _ _ _ _ _) rfl (Hone.out _ _ _ _ _ _ _) ?_))
         go_meet
         case rel=>exact hst7
      case rest=>
       have hstF:=hcut;clear hstE hstD
       go_upto_region 22 with fail
       go_cut [92] from 15 (fun bv wx=>∃ bb:Bool,bv=.bool bb/\PSt w2 B G (P+601) Pz s 9 wx)
       case first=>
        obtain ⟨_,_,_,_,_,_,_,_,_,_,_,_,_,_,hrF,hgF,_,_⟩:=id hstF
        go_wp2_with fail
        refine (pick_any B G (P+600) 8 _ hrF hBG (by omega)).mono ?_;rintro e w6 ⟨v6,rfl,⟨y0,y1,_⟩,hr6,hg6⟩
        go_wp2
        go_meet
        case rel=>exact ⟨_,rfl,pst_pick hstF hG2 hPz hg6 hr6⟩
       case rest=>
        obtain ⟨bb,rfl,hstH⟩:=hcut
        go_upto_if 92 with fail
        go_cut [] from 15 (fun wx=>PSt w2 B G (P+610) Pz s 9 wx)
        case first=>
         obtain ⟨B1,nB,d1,giB,B2,nrB,d2,rsB,hrowB,hnB,hoB,hRB,hlB,hNB,hrB,hgB,hSB,hVB⟩:=id hstH;cases bb
         ·go_wp2
          go_meet
          case rel=>exact pst_more hstH (by omega) (Nat.le_refl _)
         ·obtain rfl:nB=ng:=by omega
          obtain ⟨g1,rfl,hg1,hg1w⟩:=hoB.form (by omega);obtain ⟨x0,x1,x2⟩:PBox wc Pz s (some ⟨g1,0,none⟩) nB d1 B2 nrB d2:=⟨cell_of_row _ _ 0 _ _ (0,0) hrowB,cell_of_row _ _ 1 _ _ (0,0) hrowB,cell_of_row _ _ 2 _ _ (0,0) hrowB⟩;have hP1:P+601<=1099511627776:=(by omega);have hP2:P+602<=1099511627776:=(by omega);have hF1:=Lib.hid (fun (w':World) (hg:wc.grownBy w' (some G))=>(⟨cell_of_row _ _ 1 _ _ (0,0) ((hg.block Pz (Array.getElem?_eq_some_iff.1 hrowB).1 (by intro e;injection e with e;omega)).trans hrowB),hoB.keptG hg hG2⟩:w'.cell? ⟨Pz,1,none⟩=some (.slice (some ⟨g1,0,none⟩) nB d1)/\Ow w' w2.heap.size (some ⟨g1,0,none⟩) nB d1 giB))
          have hFS:=Lib.hid (fun (w':World) (hg:wc.grownBy w' (some G)) (hr:Rdr w' B G (P+603)) (j:Nat) (z:Int) (hz:0<=z/\z<=s)=>pst_more (pst_store ((hg.block Pz (Array.getElem?_eq_some_iff.1 hrowB).1 (by intro e;injection e with e;omega)).trans hrowB) hnB (hoB.keptG hg hG2) (hRB.keptL hg hG2) hlB hNB hr (hgB.trans hg) (hSB.keptL hg hG2) hVB hG2 hB2 j z hz) (show P+603<=P+610 by omega) (Nat.le_refl _));clear hnB hng
          go_upto_region 23 with fail
          go_region_with (first
           |(go_at_call 90;(with_reducible refine (pick_any B G (P+601) (nB:Int) _ ?hd hBG hP1).mono ?_);(case hd=>exact hrB);rintro e w7 ⟨v7,rfl,⟨a0,a1,_⟩,hd7,hg7d⟩;have ht7:=a1 (by omega);clear a1;have hg7:wc.grownBy w7 (some G):=⟨hg7d.os,hg7d.tape,hg7d.output,hg7d.size,hg7d.block⟩;obtain ⟨z7,rfl⟩:=Int.eq_ofNat_of_zero_le a0;obtain ⟨k7,hO7⟩:=hF1.out _ hg7)
           |(go_at_call 90;(with_reducible refine (pick_any B G (P+602) s _ ?hd hBG hP2).mono ?_);(case hd=>exact hd7);rintro e w8 ⟨v8,rfl,⟨b0,b1,_⟩,hd8,hg8d⟩;have ht8:=b1 (by omega);clear b1;have hg8:wc.grownBy w8 (some G):=hg7.trans ⟨hg8d.os,hg8d.tape,hg8d.output,hg8d.size,hg8d.block⟩;obtain ⟨k8,hO8⟩:=hF1.out _ hg8;obtain ⟨c8,f8⟩:=hO8.cell (show z7<nB by omega)))
          all_goals
           go_wp2
           go_meet
           case rel=>exact hFS.out _ hg8 hd8 _ _ (by have q:=IntWalk.i64_in (1+v8) (by omega);omega)
        case rest=>
         have hstJ:=hcut;clear hstH hstF;obtain ⟨_,_,_,_,_,_,_,_,_,_,_,_,_,_,hrJ,hgJ,_,_⟩:=id hstJ
         go_upto_region 24 with fail
         go_cut [107] from 15 (fun bv wx=>∃ bb:Bool,bv=.bool bb/\Hid (m<=0->bb=false)/\PSt w2 B G (P+611) Pz s 9 wx)
         case first=>
          go_wp2_with fail
          refine (odd_any B G (P+610) m _ hrJ hBG (by omega) hm).mono ?_;rintro e w9 ⟨b9,rfl,hb9,hr9,hg9⟩;have hb9:=Lib.hid hb9
          go_wp2
          go_meet
          case rel=>exact ⟨_,rfl,hb9,pst_pick hstJ hG2 hPz hg9 hr9⟩
         case rest=>
          obtain ⟨bb,rfl,hbm,hstK⟩:=hcut
          go_upto_if 107 with fail
          go_cut [] from 15 (fun wx=>FSt w2 B G (P+800) Pz s m wx)
          case first=>
           cases bb
           ·go_wp2
            go_meet
            case rel=>exact fst_of hstK q16 (by omega) (by omega) (.inl (by omega))
           ·have Hm1:=Lib.hid (show 1<=m by
             rcases Int.lt_or_le 0 m with h|h
             ·omega
             ·exact absurd (hbm.out h) (by decide))
            obtain ⟨A1,n,c1,gi,A2,nr,c2,rs,hrow0,hn,ho0,hR0',hl,hN,hr0',hgK,hS0',hV⟩:=id hstK
            go_wp2_with fail
            refine (pick_any B G (P+611) 3 _ hr0' hBG (by omega)).mono ?_;rintro e wr ⟨v9,rfl,⟨y0,y1,_⟩,hr,hg9⟩;have hv9:=y1 (by omega);have hgw:=hgK.trans hg9;have hrow:=(hg9.block Pz (Array.getElem?_eq_some_iff.1 hrow0).1 (by intro e;injection e with e;omega)).trans hrow0;have ho:=ho0.keptG hg9 hG2;have hR:=hR0'.keptL hg9 hG2;have hSp:=hS0'.keptL hg9 hG2;clear hrow0 ho0 hR0' hr0' hS0' y1;obtain ⟨x0,x1,x2⟩:PBox wr Pz s A1 n c1 A2 nr c2:=⟨cell_of_row _ _ 0 _ _ (0,0) hrow,cell_of_row _ _ 1 _ _ (0,0) hrow,cell_of_row _ _ 2 _ _ (0,0) hrow⟩;have f1:=frozen_of_row _ Pz 1 _ _ hrow
            have f2:=frozen_of_row _ Pz 2 _ _ hrow;have hv3:v9=0\/v9=1\/v9=2:=(by omega)
            rcases hv3 with rfl|rfl|rfl
            ·have hP1:P+612<=1000:=(by omega)
             go_wp2
             refine wp_region_dsR [114,115,116,117,118,119,120,121,122] (RuleG w2 G Pz s Ag ng cg A2 nr c2 (Value.slice A1 n c1).ownBlock gi 1) (RelP w2 B G Pz (P+712)) (RuleEff w2 G nr c2 A2) (RuleC w2 B G (P+612) nr c2 A2 rs (Value.slice A1 n c1).ownBlock) ?C0 ?refl (fun _ _ h h'=>relP_trans h h') (by kernel_rfl) (by kernel_rfl) (by simp) (fun j i v w w' hji _ he hg=>ruleG_eff hG2 j i v w w' hji he hg) ?step ?last
             case C0=>exact fun j=>⟨fun _=>hr,fun _=>⟨hR,hSp⟩⟩
             case refl=>exact relP_grown hG2 hPz (grown_drew (World.grownBy.refl wr _)) (fun h=>h)
             case step=>
              intro i o a w' K hi hoo hrel hfr hpre hC hK;have e0:a.eval (.tmp 0)=.pointer (some ⟨G,0,none⟩):=hfr 0 (by simp);have e5:a.eval (.tmp 5)=.int .i64 s:=hfr 5 (by simp);have e6:a.eval (.tmp 6)=.slice Ag ng cg:=hfr 6 (by simp);have e7:a.eval (.tmp 7)=.pointer (some ⟨Pz,0,none⟩):=hfr 7 (by simp);have hrow':=hrel.2.2.1 _ hrow;have hsW:=Nat.le_trans hgw.size hrel.1;have hgw':=hrel.2.1 hgw;have hi9:i<9:=hi;have:i=0\/i=1\/i=2\/i=3\/i=4\/i=5\/i=6\/i=7\/i=8:=(by omega)
              rcases this with rfl|rfl|rfl|rfl|rfl|rfl|rfl|rfl|rfl
              all_goals
               simp only [List.getElem?_toArray,List.getElem?_cons_zero,List.getElem?_cons_succ,Option.some.injEq] at hoo;subst hoo
              ·refine oper_val (v:=.pointer (some ⟨Pz,2,none⟩)) (w':=w') ?_ (hK _ w' (relP_refl w') (World.grownBy.refl _ _) (fun j _ h=>h) rfl);unfold execOp;simp only [e7]
               go_simp
              ·have p0:a.eval (.tmp 114)=.pointer (some ⟨Pz,2,none⟩):=hpre ⟨0,.data⟩ (by simp) rfl;have c2':=cell_of_row _ _ 2 _ _ (0,0) hrow';refine oper_val (v:=.slice A2 nr c2) (w':=w') ?_ (hK _ w' (relP_refl w') (World.grownBy.refl _ _) (fun j _ h=>h) rfl);unfold execOp;simp only [p0]
               go_simp
              ·refine oper_val (v:=.pointer (some ⟨G,0,none⟩)) (w':=w') ?_ (hK _ w' (relP_refl w') (World.grownBy.refl _ _) (fun j _ h=>h) rfl);unfold execOp;simp only [e0]
               go_simp
              ·refine oper_val (v:=.slice Ag ng cg) (w':=w') ?_ (hK _ w' (relP_refl w') (World.grownBy.refl _ _) (fun j _ h=>h) rfl);unfold execOp;simp only [e6]
               go_simp
              ·refine oper_val (v:=.int .i64 s) (w':=w') ?_ (hK _ w' (relP_refl w') (World.grownBy.refl _ _) (fun j _ h=>h) rfl);unfold execOp;simp only [e5]
               go_simp
              ·have p116:a.eval (.tmp 116)=.pointer (some ⟨G,0,none⟩):=hpre ⟨2,.data⟩ (by simp) rfl;have p117:a.eval (.tmp 117)=.slice Ag ng cg:=hpre ⟨3,.data⟩ (by simp) rfl;have p118:a.eval (.tmp 118)=.int .i64 s:=hpre ⟨4,.data⟩ (by simp) rfl;refine oper_call (f:=107) (args:= #[.pointer (some ⟨G,0,none⟩),.slice Ag ng cg,.int .i64 s,.int .i64 1]) ?_ (l20Rule_any B G (P+612) Ag cg ng w'.heap.size g s 1 w' (hC.1 rfl) hBG hP1 (HGr.out _ hgw').rd (Nat.le_refl _) hneG gv2 (by omega)) ?_
               ·unfold execOp
                go_simp
                exact ⟨by simpa [Act.eval] using p116,by simpa [Act.eval] using p117,by simpa [Act.eval] using p118⟩
               ·rintro e w6 ⟨k6,A6,n6,c6,v6,xs6,rfl,ho6,hn6,hrv6,hr6,hg6⟩;refine ⟨_,rfl,hK _ w6 (relP_grown hG2 hPz hg6 (fun _=>hr6)) hg6 (fun j hj h=>⟨fun e=>absurd e hj,fun e=>⟨(h.2 e).1.keptL hg6 hG2,(h.2 e).2.keptL hg6 hG2⟩⟩) ⟨k6,A6,n6,c6,v6,xs6,rfl,ho6.mono hsW,hn6,hrv6,fun g hg e=>by have q1:=ho6.own_lo g hg;have q2:=ho.own_hi g e;have q3:=hrel.1;omega⟩⟩
              ·obtain ⟨k6,A6,n6,c6,v6,xs6,p119,ho6,hn6,hq6⟩:∃ k A n' c u xs,a.eval (.tmp 119)=.agg #[.int .i64 k,.slice A n' c,.int .i64 u]/\Ow w' w2.heap.size A n' c xs/\n'<=5/\(_->rv k xs u s=true)/\∀ g,(Value.slice A n' c).ownBlock=some g->(Value.slice A1 n c1).ownBlock≠some g:=hpre ⟨5,.data⟩ (by simp) rfl;have hgA:w'.grownBy (w'.alloc (.cells #[.int .i64 k6,.slice A6 n6 c6,.int .i64 v6] 88)) (some G):=only_alloc (World.grownBy.refl _ _) _;refine oper_val (v:=.slice (some ⟨w'.heap.size,0,none⟩) 1 1) (w':=w'.alloc (.cells #[.int .i64 k6,.slice A6 n6 c6,.int .i64 v6] 88)) ?_ (hK _ _ (relP_grown hG2 hPz hgA (fun h=>h.alloc (by omega) _)) hgA (fun j hj h=>⟨fun e=>(h.1 e).alloc (by omega) _,fun e=>⟨(h.2 e).1.keptL hgA hG2,(h.2 e).2.keptL hgA hG2⟩⟩) ⟨_,k6,A6,n6,c6,v6,xs6,rfl,heap_alloc_new _ _,World.ownsRow.alloc ho6 _,hn6,?_,by omega,hq6⟩)
               ·have p119':a.tmps[119]?.getD undef=.agg #[.int .i64 k6,.slice A6 n6 c6,.int .i64 v6]:=(by simpa [Act.eval] using p119);unfold execOp
                go_simp
               ·intro e;obtain ⟨vs,hown,_⟩:=id hR;have:=(World.ownsRow.lt hown _ e.symm).2;have:=hrel.1;omega
              ·have p115:a.eval (.tmp 115)=.slice A2 nr c2:=hpre ⟨1,.data⟩ (by simp) rfl;obtain ⟨b,k6,A6,n6,c6,v6,xs6,p120,hlit,ho6,hn6,hb6,_,hv6,hX6⟩:∃ b k A n' c u xs,a.eval (.tmp 120)=.slice (some ⟨b,0,none⟩) 1 1/\w'.heap[b]? =some (.cells #[.int .i64 k,.slice A n' c,.int .i64 u] 88)/\Ow w' w2.heap.size A n' c xs/\n'<=5/\some b≠(Value.slice A2 nr c2).ownBlock/\b≠G/\(_->rv k xs u s=true)/\∀ g,(Value.slice A n' c).ownBlock=some g->(Value.slice A1 n c1).ownBlock≠some g:=hpre ⟨6,.data⟩ (by simp) rfl;have hR7:=hC.2 rfl;obtain ⟨vs7,hown7,hin7,hcb7⟩:=hR7.1.with_ hR7.2
               obtain ⟨A7,c7,w7,hrun,⟨q1,q1'⟩,q2⟩:=run_push_oneV 24 w2.heap.size A2 nr c2 b rs k6 v6 A6 n6 c6 xs6 hl vs7 hown7 hin7 ho6 hlit (by omega) (by omega) hsW;refine oper_val (v:=.slice A7 (nr+1) c7) (w':=w7) ?_ (hK _ w7 (relP_own hG2 hB2 hown7 q2) ⟨q2,vs7,hown7⟩ (fun j hj h=>⟨fun e=>(h.1 e).belowN (below_ownR hown7 (Nat.le_refl _) hsW q2) hG2 hB2,fun e=>absurd e hj⟩) ⟨A7,c7,_,rfl,⟨_,q1,q1'⟩,by simp [hl],⟨_,q1,hcb7.app hown7.1 (CbV.one hX6)⟩,fun h=>absurd h (by decide)⟩);unfold execOp;simp only [resolve,invoke,builtin,Sem.run_bind,Sem.run_pure,Result.andThen_ok,List.map_toArray,List.map_cons,List.map_nil,p115,p120,hrun]
              ·refine oper_val (v:=.pointer (some ⟨Pz,2,none⟩)) (w':=w') ?_ (hK _ w' (relP_refl w') (World.grownBy.refl _ _) (fun j _ h=>h) rfl);unfold execOp;simp only [e7]
               go_simp
             case last=>
              intro o a w5 hoo hrel hdef htm hfr hpre;simp only [List.length_cons,List.length_nil,Nat.reduceAdd,List.getElem?_toArray,List.getElem?_cons_zero,List.getElem?_cons_succ,Option.some.injEq] at hoo;subst hoo;have g114:a.tmps.getD 114 undef=.pointer (some ⟨Pz,2,none⟩):=hpre 0 (by simp);have g115:a.tmps.getD 115 undef=.slice A2 nr c2:=hpre 1 (by simp);have g116:a.tmps.getD 116 undef=.pointer (some ⟨G,0,none⟩):=hpre 2 (by simp);have g117:a.tmps.getD 117 undef=.slice Ag ng cg:=hpre 3 (by simp);have g118:a.tmps.getD 118 undef=.int .i64 s:=hpre 4 (by simp)
              obtain ⟨k6,A6,n6,c6,v6,xs6,g119,_,_⟩:∃ k A n' c u xs,a.tmps.getD 119 undef=.agg #[.int .i64 k,.slice A n' c,.int .i64 u]/\Ow w5 w2.heap.size A n' c xs/\_:=hpre 5 (by simp);obtain ⟨b7,_,_,_,_,_,_,g120,_⟩:∃ b k A n' c u xs,a.tmps.getD 120 undef=.slice (some ⟨b,0,none⟩) 1 1/\w5.heap[b]? =some (.cells #[.int .i64 k,.slice A n' c,.int .i64 u] 88)/\Ow w5 w2.heap.size A n' c xs/\_:=hpre 6 (by simp);obtain ⟨A7,c7,rs7,g121,ho7,hl7,hS7,hV7⟩:∃ A' c' rs',a.tmps.getD 121 undef=.slice A' (nr+1) c'/\OwR w5 w2.heap.size (.slice A' (nr+1) c') rs' (nr+1)/\rs'.length=nr+1/\SpQ w5 w2.heap.size (.slice A' (nr+1) c') (nr+1) (fun g=>(Value.slice A1 n c1).ownBlock≠some g)/\(_->pvB s gi rs'=true):=hpre 7 (by simp)
              have g122:a.tmps.getD 122 undef=.pointer (some ⟨Pz,2,none⟩):=hpre 8 (by simp);have h121:a.eval (.tmp 121)=.slice A7 (nr+1) c7:=g121;have h122:a.eval (.tmp 122)=.pointer (some ⟨Pz,2,none⟩):=g122;have hrow5:=hrel.2.2.1 _ hrow;have hc5:=cell_of_row _ _ 2 _ _ (0,0) hrow5;have hf5:=frozen_of_row _ Pz 2 _ _ hrow5;have hg5:=hrel.2.1 hgw;have hr5:=hrel.2.2.2.2 hgw.size (hr.more (by omega));have ho5:=hrel.2.2.2.1 _ _ _ _ ho
              have hnew:PSt w2 B G (P+712) Pz s 10 (w5.setCell ⟨Pz,2,none⟩ (.slice A7 (nr+1) c7)):=
               ⟨A1,n,c1,gi,A7,nr+1,c7,rs7,heap_setCell_same w5 Pz 2 _ _ _ hrow5,hn,ownsRow_cellX ho5 hrow5 (by decide),ho7.cellX hrow5,hl7,by omega,hr5.belowN ((Below.refl _ _).setCell hPz _) hG2 hB2,grown_low hg5 ((Below.refl _ _).setCell hPz _),hS7.cellX hrow5,fun h=>absurd h (by decide)⟩
              refine ⟨w5.setCell ⟨Pz,2,none⟩ (.slice A7 (nr+1) c7),?_,?_⟩
              ·unfold execOp;simp only [h121,h122]
               go_simp
              ·have key:=htm;simp only [List.foldl_cons,List.foldl_nil,g114,g115,g116,g117,g118,g119,g120,g121,g122,List.setIfInBounds_toArray,List.set_cons_succ,List.set_cons_zero] at key;clear htm hfr hpre g114 g115 g116 g117 g118 g119 g120 g121 g122 h121 h122;obtain ⟨tm,df⟩:=a
               dsimp only at key hdef
               subst key hdef
               go_wp2
               go_meet
               case rel=>exact fst_of hnew q16 (by omega) (by omega) (.inr Hm1.out)
            ·have hn4:4<=n:=(by omega);obtain ⟨g1,rfl,hg1,hg1w⟩:=ho.form (by omega);have hcap:=ho.le_cap;have hcI:(1:Int)<=(c1:Int):=(by omega);have hnI:(1:Int)<=(n:Int):=(by omega);have hcI2:(1:Int)<(c1:Int):=(by omega)
             have hneP:g1≠Pz:=fun e=>own_ne_row hrow ho (by decide) (by rw [e];rfl)
             have hbS:Below w2.heap.size wr (wr.setCell ⟨Pz,1,none⟩ (.slice (some ⟨g1,1,none⟩) (n-1) (c1-1))):=Below.setCell (p:=(⟨Pz,1,none⟩:Addr)) (Below.refl _ _) hPz _
             have hfin:FSt w2 B G (P+800) Pz s m (wr.setCell ⟨Pz,1,none⟩ (.slice (some ⟨g1,1,none⟩) (n-1) (c1-1))):=
              ⟨some ⟨g1,1,none⟩,n-1,c1-1,gi.drop 1,A2,nr,c2,rs,heap_setCell_same wr Pz 1 _ _ _ hrow,by omega,by simpa using (rd_drop_ ho.rd (by omega)).grown (w':=wr.setCell ⟨Pz,1,none⟩ (.slice (some ⟨g1,1,none⟩) (n-1) (c1-1))) grown_set (fun b off e=>by injection e with e;injection e with e _ _;rw [<- e];exact hneP) (Nat.le_refl _),fun b off e=>by injection e with e;injection e with e _ _;rw [<- e];exact hg1,hR.cellX hrow,hl,by omega,(hr.belowN hbS hG2 hB2).more (by omega),grown_low hgw hbS,fun h=>absurd h (by have:=Hm1.out;omega)⟩
             clear hneP hbS
             go_wp2
             go_meet
             case rel=>exact hfin
            ·have hmk:=make_rules21 wr;obtain ⟨hown21,hin21⟩:=rules21_own wr hgw.size;obtain ⟨W,hW⟩:∃ W,wr.alloc (.cells (madeCells #[.int .i64 0,.slice none 0 0,.int .i64 0] 63) 88)=W:=⟨_,rfl⟩;rw [hW] at hmk hown21 hin21;have hPl:Pz<wr.heap.size:=(Array.getElem?_eq_some_iff.1 hrow).1;have hbW:Below wr.heap.size wr W:=(by rw [<- hW];exact (Below.refl _ _).alloc (Nat.le_refl _) _);have hrowW:=(hbW.block Pz hPl).trans hrow;have f2W:=frozen_of_row _ Pz 2 _ _ hrowW;have x2W:=cell_of_row _ _ 2 _ _ (0,0) hrowW;have hbS:Below w2.heap.size W (W.setCell ⟨Pz,2,none⟩ (.slice (some ⟨wr.heap.size,0,none⟩) 21 21)):=Below.setCell (p:=(⟨Pz,2,none⟩:Addr)) (Below.refl _ _) hPz _
             have hgW:w2.grownBy W (some G):=grown_low hgw (hbW.mono hgw.size);have hoW:=ho.below hbW
             have hneP:∀ b,A1=some ⟨b,0,none⟩->b≠Pz:=fun b e1 e=>own_ne_row hrowW hoW (by decide) (by rw [e1,e];rfl)
             have hfin:FSt w2 B G (P+800) Pz s m (W.setCell ⟨Pz,2,none⟩ (.slice (some ⟨wr.heap.size,0,none⟩) 21 21)):=
              ⟨A1,n,c1,gi,some ⟨wr.heap.size,0,none⟩,21,21,List.replicate 21 ⟨0,[],0⟩,heap_setCell_same W Pz 2 _ _ _ hrowW,by omega,by
                have hq:=hoW.rd.grown (w':=W.setCell ⟨Pz,2,none⟩ (.slice (some ⟨wr.heap.size,0,none⟩) 21 21)) grown_set (fun b off e=>by
                 obtain ⟨g1,e1,_⟩:=hoW.form (by omega);rw [e] at e1
                 injection e1 with e1
                 injection e1 with e1 e2 _
                 subst e2
                 exact hneP b e) (Nat.le_refl _)
                simpa using hq,fun b off e=>(by
                 obtain ⟨g1,e1,h1,_⟩:=hoW.form (by omega);rw [e] at e1
                 injection e1 with e1
                 injection e1 with e1 e2 _
                 omega),OwR.cellX ⟨_,hown21,hin21⟩ hrowW,by simp,by omega,((hr.belowN (hbW.mono hgw.size) hG2 hB2).belowN hbS hG2 hB2).more (by omega),grown_low hgW hbS,fun h=>absurd h (by have:=Hm1.out;omega)⟩
             clear hneP hbS hgW hoW hown21 hin21 hrowW hbW hPl
             go_wp2
             go_meet
             case rel=>exact hfin
          case rest=>
           obtain ⟨A1,n,c1,gi,A2,nr,c2,rs,hrow,hn,hrd,hlo1,hR,hl,hN,hr,hgL,hVf⟩:=hcut;have hR0c:=HR2.out _ hgL;obtain ⟨x0,x1,x2⟩:PBox wc Pz s A1 n c1 A2 nr c2:=⟨cell_of_row _ _ 0 _ _ (0,0) hrow,cell_of_row _ _ 1 _ _ (0,0) hrow,cell_of_row _ _ 2 _ _ (0,0) hrow⟩;have hR0l:R0<w2.heap.size:=(by have:=hgr2.size;omega);have hwR:w.heap.size<=R0:=Nat.le_of_eq HR.out.symm
           go_wp2_with (refine wpList_store_row rfl 26 _ _ rfl R0 #[.int .i64 s,.slice A1 n c1,.slice A2 nr c2] rfl rfl 26 #[.int .i64 0,.slice none 0 0,.slice none 0 0] hR0c (Hi.out _ _ _ _ _ _ _) rfl (Hone.out _ _ _ _ _ _ _) ?_)
           refine bodyPost_ret (v:=.agg #[.int .i64 s,.slice A1 n c1,.slice A2 nr c2]) (results_cell_row (by rfl) _ _ R0 26 _ (0,0) _ rfl (setRow_heap _ _ _ _ _ _ hR0c) Tryz.underlying26 rfl (Hi.out _ _ _ _ _ _ _)) rfl ⟨s,A1,n,c1,gi,A2,nr,c2,rs,rfl,hs2,hs4,?_,hn,fun b off e=>Nat.le_trans hwR (Nat.le_of_lt (Nat.lt_of_lt_of_le hR0l (hlo1 b off e))),(hR.setX hR0c).mono (by omega),hl,hN,hr.belowN (setRow_below5 (Below.refl _ _) (Nat.le_refl _)) hGw hBw,grown_low ((hg0.trans hgr2).trans hgL) (setRow_below5 (Below.refl _ _) hwR),hVf⟩;have:=hrd.grown grown_setRow5 (fun b off e=>(by have:=hlo1 b off e;omega)) (Nat.le_refl _) (w':=wc.setRow R0 #[.int .i64 s,.slice A1 n c1,.slice A2 nr c2])
           simpa using this
end Go.Proofs.YtkeoflnmbcdmfaaGreatDoor
set_option maxRecDepth 8000
namespace Go.Proofs.YtkeoflnmbcdmfaaGreatDoor
open Go.ChangeShapes Go.WideShapes Go.ChangeAt Go.RowKit
theorem RdB.alloc_ {w:World} {A:Option Addr} {n:Nat} {bs:List Int} (h:RdB w w.heap.size A n bs) (o:Obj):RdB (w.alloc o) (w.alloc o).heap.size A n bs:=by
 have h':=h.below ((Below.refl w.heap.size w).alloc (Nat.le_refl _) o);refine ⟨h'.1,fun hn=>?_,h'.2.2⟩;obtain ⟨b,off,e,hb,hc⟩:=h'.2.1 hn;exact ⟨b,off,e,by rw [World.size_alloc];omega,hc⟩
theorem results_ct {P:Program} {fn:Func} {p q:Tmp} {ty:TypeId} (h:fn.results= #[.cell p ty,.tmp q]) (tmps:Array Value) (w:World) (g:Nat) (t:TypeId) (cs:Array Value) (fr:Nat×Nat) (d:TypeDesc) (b:Value)
 (hp:tmps.getD p undef=.pointer (some ⟨g,0,none⟩)) (hq:tmps.getD q undef=b) (hg:w.heap[g]? =some (.cells cs t fr))
 (hu:P.underlying ty=some d) (hd:(match d with|.struct _|.array _ _=>true|_=>false)=true) (hi:(P.info? ty).map (·.size)=some cs.size):
 (results fn tmps).run P w=.ok (.tuple #[.agg cs,b]) w:=by
 have hp':tmps[p]?.getD undef=.pointer (some ⟨g,0,none⟩):=by simpa using hp
 have hq':tmps[q]?.getD undef=b:=by simpa using hq
 simp [results,h,hp',hq',asAddr,run_loadVar_row w g t ty cs fr d hg hu hd hi]
def DrawnCase (w:World) (e:Ending) (w':World):Prop:=
 ∃ (k:Int) (A:Option Addr) (n c:Nat) (v:Int) (xs:List Int) (Ag:Option Addr) (ng cg:Nat) (g:List Int) (s:Int),e=.returned (.tuple #[.agg #[.int .i64 k,.slice A n c,.int .i64 v],.slice Ag ng cg,.int .i64 s])/\Ow w' w.heap.size A n c xs/\n<=5/\Ow w' w.heap.size Ag ng cg g/\ng<=16/\2<=s/\s<=4/\Below w.heap.size w w'
end Go.Proofs.YtkeoflnmbcdmfaaGreatDoor
set_option maxRecDepth 8000
namespace Go.Proofs.YtkeoflnmbcdmfaaGreatDoor
open Go.ChangeShapes Go.WideShapes Go.ChangeAt Go.RowKit
def DrawnP (w:World) (e:Ending) (w':World):Prop:=∃ s A1 n c1 gi A2 nr c2 rs,e=.returned (.agg #[.int .i64 s,.slice A1 n c1,.slice A2 nr c2])/\2<=s/\s<=4/\Rd w' w'.heap.size A1 n gi/\n<=16/\OwR w' w.heap.size (.slice A2 nr c2) rs nr/\rs.length=nr/\nr<=100/\Below w.heap.size w w'
theorem rd_keepV {w w':World} {G B n:Nat} {A:Option Addr} {xs:List Int} (h:Rd w B A n xs) (hB:B<=w.heap.size) (hg:w.grownBy w' (some G)) (hne:∀ b off,A=some ⟨b,off,none⟩->G<b):Rd w' B A n xs:=by
 refine ⟨h.1,fun hn=>?_⟩;obtain ⟨b,off,e,hlt,hc⟩:=h.2 hn;exact ⟨b,off,e,hlt,fun k hk=>(grown_at hg _ _ (hne b off e) (by omega)).trans (hc k hk)⟩
theorem pv_none {s:Int} {gi:List Int} {rs:List RuleM} (h:pvB s gi rs=true):pvB s gi []=true:=pv_nil (pv_gv h).1
theorem rv_zero {v s:Int} {xs:List Int}:rv 0 xs v s=false:=by
 have:kindOk 0 v xs.length s=false:=by unfold kindOk;simp
 unfold rv;rw [this,Bool.and_false]
theorem pv_zero {s v:Int} {gi xs:List Int} {rs:List RuleM}:pvB s gi (rs++[⟨0,xs,v⟩])=false:=by
 cases h:pvB s gi (rs++[⟨0,xs,v⟩])
 ·rfl
 ·have:=(pv_gv h).2.2 rs.length (by simp);rw [show rs.length=rs.length+0 from rfl,rat_right rfl] at this;have e:rat [(⟨0,xs,v⟩:RuleM)] 0=⟨0,xs,v⟩:=rfl;rw [e,rvR] at this;rw [rv_zero] at this;cases this
set_option maxHeartbeats 4000000 in
theorem draw_DrawSolveFirst (A:Option Addr) (n c:Nat) (bs:List Int) (w:World) (h:Code_ w A n c bs):Calls Tryz.prog 21 #[.slice A n c] w (DrawnP w):=by
 have Hone:=Lib.hid puz_one;have Hi:=Lib.hid puz_info;have h1:=h.1.alloc_ (.cells #[.int .i64 0,.slice none 0 0,.slice none 0 0] 26);obtain ⟨w0,hW⟩:∃ w0,w0=w.alloc (.cells #[.int .i64 0,.slice none 0 0,.slice none 0 0] 26):=⟨_,rfl⟩;rw [<- hW] at h1
 have hRw:w.heap.size<w0.heap.size:=by rw [hW];simp
 have hb00:Below w.heap.size w w0:=by rw [hW];exact (Below.refl _ _).alloc (Nat.le_refl _) _
 have hR0:w0.heap[w.heap.size]? =some (.cells #[.int .i64 0,.slice none 0 0,.slice none 0 0] 26):=by rw [hW];exact heap_alloc_new w _
 have HW:=Lib.hid hW;clear hW
 go_enter Tryz.func21,Tryz.ntmps21
 go_wp2_with fail
 rw [<- HW.out];refine (specOpen A c n bs w0 h1 h.2.1 h.2.2).mono ?_;rintro e w1 ⟨rfl,hr,hb⟩;have hR1:=(hb.block w.heap.size hRw).trans hR0;have hG1:=hr.lt
 go_wp2_with fail
 refine (l20Puzzle_any w0.heap.size w0.heap.size 0 12 w1 hr (Nat.le_refl _) (by omega) (by omega)).mono ?_;rintro e w2 ⟨s,A1,n1,c1,gi,A2,nr,c2,rs,rfl,s2,s4,hrd,hn16,hlo,hR,hl,hnr,hr2,hg,_⟩;have h12:=hg.size;have hR4:=(hg.block w.heap.size (Nat.lt_of_lt_of_le hRw hb.size) (fun e=>by injection e with e;omega)).trans hR1;have hb17:Below w.heap.size w w2:=(hb00.trans (hb.mono hb00.size)).trans ⟨hg.os,hg.tape,hg.output,hg.size,fun j hj=>hg.block j (Nat.lt_of_lt_of_le hj (Nat.le_trans hb00.size hb.size)) (fun e=>by injection e with e;omega)⟩
 have hf:DrawnP w (.returned (.agg #[.int .i64 s,.slice A1 n1 c1,.slice A2 nr c2])) (w2.setRow w.heap.size #[.int .i64 s,.slice A1 n1 c1,.slice A2 nr c2]):=by
  have hgr:w2.grownBy (w2.setRow w.heap.size #[.int .i64 s,.slice A1 n1 c1,.slice A2 nr c2]) (some w.heap.size):=grown_row;have hsz:=hgr.size;exact ⟨s,A1,n1,c1,gi,A2,nr,c2,rs,rfl,s2,s4,(rd_keepV hrd (Nat.le_refl _) hgr (fun b off e=>by have:=hlo b off e;omega)).more hsz,hn16,(hR.setX hR4).mono (by omega),hl,hnr,setRow_below5 hb17 (Nat.le_refl _)⟩
 clear hrd hR hlo hr hr2 hg
 go_wp2_with (refine wpList_store_row rfl 26 _ _ rfl w.heap.size #[.int .i64 s,.slice A1 n1 c1,.slice A2 nr c2] rfl rfl 26 #[.int .i64 0,.slice none 0 0,.slice none 0 0] hR4 (Hi.out _ _ _ _ _ _ _) rfl (Hone.out _ _ _ _ _ _ _) ?_)
 exact bodyPost_ret (v:=.agg #[.int .i64 s,.slice A1 n1 c1,.slice A2 nr c2]) (results_cell_row (by rfl) _ _ w.heap.size 26 _ (0,0) _ rfl (setRow_heap _ _ _ _ _ _ hR4) Tryz.underlying26 rfl (Hi.out _ _ _ _ _ _ _)) rfl hf
end Go.Proofs.YtkeoflnmbcdmfaaGreatDoor
set_option maxRecDepth 8000
namespace Go.Proofs.YtkeoflnmbcdmfaaGreatDoor
open Go.ChangeShapes Go.WideShapes Go.ChangeAt Go.RowKit
end Go.Proofs.YtkeoflnmbcdmfaaGreatDoor
set_option maxRecDepth 8000
namespace Go.Proofs.YtkeoflnmbcdmfaaGreatDoor
open Go.ChangeShapes Go.WideShapes Go.ChangeAt Go.RowKit
set_option maxHeartbeats 1000000 in
theorem toRule_any (k:Int) (A:Option Addr) (n c B:Nat) (xs:List Int) (v:Int) (w:World) (h:Rd w B A n xs) (hB:B<=w.heap.size) (hm:n<=1099511627776):
 Calls Tryz.prog 137 #[.agg #[.int .i64 k,.slice A n c,.int .i64 v]] w fun e w'=>∃ A',e=.returned (.agg #[.int .i64 k,.slice A' n n,.int .i64 v])/\Ow w' w.heap.size A' n n xs/\Below w.heap.size w w':=by
 have Hone:=Lib.hid rule_one;have Hi:=Lib.hid rule_info;have hx0:=rbox_new w k A n c v 147;have hb0:Below w.heap.size w (w.alloc (.cells #[.int .i64 k,.slice A n c,.int .i64 v] 147)):=(Below.refl _ _).alloc (Nat.le_refl _) _
 have hs0:w.heap.size<(w.alloc (.cells #[.int .i64 k,.slice A n c,.int .i64 v] 147)).heap.size:=by simp
 obtain ⟨V,hV⟩:∃ V,V=((w.alloc (.cells #[.int .i64 k,.slice A n c,.int .i64 v] 147)).alloc (.cells #[.int .i64 0,.slice none 0 0,.int .i64 0] 88)).alloc (.cells #[.int .i64 k,.slice none 0 0,.int .i64 0] 88):=⟨_,rfl⟩;have hb1:Below w.heap.size w ((w.alloc (.cells #[.int .i64 k,.slice A n c,.int .i64 v] 147)).alloc (.cells #[.int .i64 0,.slice none 0 0,.int .i64 0] 88)):=hb0.alloc hb0.size _
 have hbV:Below w.heap.size w V:=by rw [hV];exact hb1.alloc hb1.size _
 have hsV:V.heap.size=w.heap.size+1+1+1:=by rw [hV];simp
 have hv2:V.heap[w.heap.size+1+1]? =some (.cells #[.int .i64 k,.slice none 0 0,.int .i64 0] 88):=by
  have:=heap_alloc2_new (w.alloc (.cells #[.int .i64 k,.slice A n c,.int .i64 v] 147)) (.cells #[.int .i64 0,.slice none 0 0,.int .i64 0] 88) (.cells #[.int .i64 k,.slice none 0 0,.int .i64 0] 88);rw [World.size_alloc] at this;rw [hV];exact this
 have hv1:V.heap[w.heap.size+1]? =some (.cells #[.int .i64 0,.slice none 0 0,.int .i64 0] 88):=by
  have:=heap_alloc2_old (w.alloc (.cells #[.int .i64 k,.slice A n c,.int .i64 v] 147)) (.cells #[.int .i64 0,.slice none 0 0,.int .i64 0] 88) (.cells #[.int .i64 k,.slice none 0 0,.int .i64 0] 88);rw [World.size_alloc] at this;rw [hV];exact this
 have hx1:RBox V w.heap.size k A n c v:=by
  rw [hV];refine hx0.below hs0 ?_
  have e:(w.alloc (.cells #[.int .i64 k,.slice A n c,.int .i64 v] 147)).heap.size=w.heap.size+1:=by simp
  rw [e];have b1:Below (w.heap.size+1) (w.alloc (.cells #[.int .i64 k,.slice A n c,.int .i64 v] 147)) ((w.alloc (.cells #[.int .i64 k,.slice A n c,.int .i64 v] 147)).alloc (.cells #[.int .i64 0,.slice none 0 0,.int .i64 0] 88)):=(Below.refl _ _).alloc (Nat.le_of_eq e.symm) _;exact b1.alloc (by simp) _
 obtain ⟨k0,k1,k2⟩:=id hx1;have hR:=h.below (hbV.mono hB)
 have hBV:B<=V.heap.size:=by omega
 have hwV:w.heap.size<=V.heap.size:=by omega
 have hwV0:w.heap.size<V.heap.size:=by omega
 have hwV1:w.heap.size+1<V.heap.size:=by omega
 have hwV2:w.heap.size+1+1<V.heap.size:=by omega
 have hne02:w.heap.size+1+1≠w.heap.size:=by omega
 have hne12:w.heap.size+1≠w.heap.size+1+1:=by omega
 have HV:=Lib.hid hV;have HsV:=Lib.hid hsV;clear hV hsV
 go_enter Tryz.func137,Tryz.ntmps137
 go_wp2_with (first
  |(go_at_call 87;(rw [<- HV.out]);refine (toIntS_any _ _ _ _ _ _ hR hBV hm).mono ?_;rintro e w1 ⟨rfl,ho1,hbw1⟩;have f1:=(hbw1.block (w.heap.size+1) hwV1).trans hv1;have f2:=(hbw1.block (w.heap.size+1+1) hwV2).trans hv2;obtain ⟨j0,j1,j2⟩:=hx1.below hwV0 hbw1;have g1:=(heap_setCell_other w1 ⟨w.heap.size+1+1,1,none⟩ (w.heap.size+1) (.slice (some ⟨V.heap.size,0,none⟩) n n) hne12).trans f1;have g2:=heap_setCell_same w1 (w.heap.size+1+1) 1 _ _ (.slice (some ⟨V.heap.size,0,none⟩) n n) f2;have fz:=frozen_of_row w1 (w.heap.size+1+1) 1 _ _ f2;have m0:w1.cell? ⟨w.heap.size+1+1,0,none⟩=some (.int .i64 k):=cell_of_row _ _ 0 _ _ (0,0) f2;have m1:w1.cell? ⟨w.heap.size+1+1,1,none⟩=some (.slice none 0 0):=cell_of_row _ _ 1 _ _ (0,0) f2;have m2:w1.cell? ⟨w.heap.size+1+1,2,none⟩=some (.int .i64 0):=cell_of_row _ _ 2 _ _ (0,0) f2;have n2:(w1.setCell ⟨w.heap.size+1+1,1,none⟩ (.slice (some ⟨V.heap.size,0,none⟩) n n)).cell? ⟨w.heap.size+1+1,2,none⟩=some (.int .i64 0):=cell_of_row _ _ 2 _ _ (0,0) g2;have fz2:=frozen_of_row (w1.setCell ⟨w.heap.size+1+1,1,none⟩ (.slice (some ⟨V.heap.size,0,none⟩) n n)) (w.heap.size+1+1) 2 _ _ g2;have l0:(w1.setCell ⟨w.heap.size+1+1,1,none⟩ (.slice (some ⟨V.heap.size,0,none⟩) n n)).cell? ⟨w.heap.size,2,none⟩=some (.int .i64 v):=(World.cell?_setCell_far w1 ⟨w.heap.size+1+1,1,none⟩ ⟨w.heap.size,2,none⟩ _ hne02).trans j2;have r1:=(heap_setCell_other (w1.setCell ⟨w.heap.size+1+1,1,none⟩ (.slice (some ⟨V.heap.size,0,none⟩) n n)) ⟨w.heap.size+1+1,2,none⟩ (w.heap.size+1) (.int .i64 v) hne12).trans g1;have r2:=heap_setCell_same (w1.setCell ⟨w.heap.size+1+1,1,none⟩ (.slice (some ⟨V.heap.size,0,none⟩) n n)) (w.heap.size+1+1) 2 _ _ (.int .i64 v) g2)
  |((refine wpList_load_row rfl 88 _ rfl (w.heap.size+1+1) rfl 88 #[.int .i64 k,.slice (some ⟨V.heap.size,0,none⟩) n n,.int .i64 v] (0,0) _ r2 Tryz.underlying88 rfl (Hi.out _ _ _ _ _) ?_))
  |((refine wpList_store_row rfl 88 _ _ rfl (w.heap.size+1) #[.int .i64 k,.slice (some ⟨V.heap.size,0,none⟩) n n,.int .i64 v] rfl rfl 88 #[.int .i64 0,.slice none 0 0,.int .i64 0] r1 (Hi.out _ _ _ _ _) rfl (Hone.out _ _ _ _ _) ?_)))
 have hbw2:Below w.heap.size w w1:=hbV.trans (hbw1.mono hwV);have hB2:Below w.heap.size w (((w1.setCell ⟨w.heap.size+1+1,1,none⟩ (.slice (some ⟨V.heap.size,0,none⟩) n n)).setCell ⟨w.heap.size+1+1,2,none⟩ (.int .i64 v)).setRow (w.heap.size+1) #[.int .i64 k,.slice (some ⟨V.heap.size,0,none⟩) n n,.int .i64 v]):=setRow_below5 ((hbw2.setCell (show w.heap.size<=w.heap.size+1+1 by omega) _).setCell (show w.heap.size<=w.heap.size+1+1 by omega) _) (by omega);have hlo1:=ho1.own_lo;have HsV':=HsV.out;have ho2:Ow (w1.setCell ⟨w.heap.size+1+1,1,none⟩ (.slice (some ⟨V.heap.size,0,none⟩) n n)) V.heap.size (some ⟨V.heap.size,0,none⟩) n n xs:=ho1.far (row:=some (w.heap.size+1+1)) grown_set (fun b hb e=>by have:=hlo1 b hb;injection e with e;omega)
 have ho3:Ow ((w1.setCell ⟨w.heap.size+1+1,1,none⟩ (.slice (some ⟨V.heap.size,0,none⟩) n n)).setCell ⟨w.heap.size+1+1,2,none⟩ (.int .i64 v)) V.heap.size (some ⟨V.heap.size,0,none⟩) n n xs:=ho2.far (row:=some (w.heap.size+1+1)) grown_set (fun b hb e=>by have:=hlo1 b hb;injection e with e;omega);refine bodyPost_ret (v:=.agg #[.int .i64 k,.slice (some ⟨V.heap.size,0,none⟩) n n,.int .i64 v]) (results_cell_row (by rfl) _ _ (w.heap.size+1) 88 _ (0,0) _ rfl (setRow_heap _ _ _ _ _ _ r1) Tryz.underlying88 rfl (Hi.out _ _ _ _ _)) rfl ⟨_,rfl,(ho3.row5 (fun b hb=>?_)).mono (by omega),hB2⟩
 have:=hlo1 b hb;omega
theorem eqRule_any (A A':Option Addr) (c c' n n' B B':Nat) (xs ys:List Int) (k v k' v':Int) (w:World) (h:Rd w B A n xs) (h':Rd w B' A' n' ys) (hB:B<=w.heap.size) (hB':B'<=w.heap.size) (hm:n<=1099511627776) (hk:k=k') (hv:v=v') (he:xs=ys):
 Calls Tryz.prog 138 #[.agg #[.int .i64 k,.slice A n c,.int .i64 v],.agg #[.int .i64 k',.slice A' n' c',.int .i64 v']] w fun e w'=>e=.returned (.bool true)/\Below w.heap.size w w':=by
 subst hk hv he;have hx:=rbox_new w k A n c v 88;have hb0:Below w.heap.size w (w.alloc (.cells #[.int .i64 k,.slice A n c,.int .i64 v] 88)):=(Below.refl _ _).alloc (Nat.le_refl _) _
 have hs0:w.heap.size<(w.alloc (.cells #[.int .i64 k,.slice A n c,.int .i64 v] 88)).heap.size:=by simp
 have hx2:=rbox_new (w.alloc (.cells #[.int .i64 k,.slice A n c,.int .i64 v] 88)) k A' n' c' v 88;have hb1:Below w.heap.size w ((w.alloc (.cells #[.int .i64 k,.slice A n c,.int .i64 v] 88)).alloc (.cells #[.int .i64 k,.slice A' n' c',.int .i64 v] 88)):=hb0.alloc hb0.size _;have hx1:=hx.below hs0 ((Below.refl _ _).alloc (Nat.le_refl _) (.cells #[.int .i64 k,.slice A' n' c',.int .i64 v] 88));rw [World.size_alloc] at hx2
 have hs1:w.heap.size<((w.alloc (.cells #[.int .i64 k,.slice A n c,.int .i64 v] 88)).alloc (.cells #[.int .i64 k,.slice A' n' c',.int .i64 v] 88)).heap.size:=by simp;omega
 have hs2:w.heap.size+1<((w.alloc (.cells #[.int .i64 k,.slice A n c,.int .i64 v] 88)).alloc (.cells #[.int .i64 k,.slice A' n' c',.int .i64 v] 88)).heap.size:=by simp
 obtain ⟨a0,a1,a2⟩:=id hx1;obtain ⟨b0,b1,b2⟩:=id hx2
 have hkk:(k != k)=false:=by simp
 have hvv:(v != v)=false:=by simp
 have hC:Hid (Calls Tryz.prog 54 #[.slice A n c,.slice A' n' c'] ((w.alloc (.cells #[.int .i64 k,.slice A n c,.int .i64 v] 88)).alloc (.cells #[.int .i64 k,.slice A' n' c',.int .i64 v] 88)) fun e w'=>e=.returned (.bool (same xs xs))/\Below ((w.alloc (.cells #[.int .i64 k,.slice A n c,.int .i64 v] 88)).alloc (.cells #[.int .i64 k,.slice A' n' c',.int .i64 v] 88)).heap.size ((w.alloc (.cells #[.int .i64 k,.slice A n c,.int .i64 v] 88)).alloc (.cells #[.int .i64 k,.slice A' n' c',.int .i64 v] 88)) w'):=
  Lib.hid (eqIntS_any _ _ _ _ _ _ _ _ _ _ _ (h.below (hb1.mono hB)) (h'.below (hb1.mono hB')) hm)
 have hsame:=same_refl xs
 go_enter Tryz.func138,Tryz.ntmps138
 go_wp2_with (go_at_call 54;refine hC.out.mono ?_;rintro e w2 ⟨rfl,hb2⟩;rw [hsame];obtain ⟨d0,d1,d2⟩:=hx1.below hs1 hb2;obtain ⟨e0,e1,e2⟩:=hx2.below hs2 hb2)
 go_ret
 exact ⟨rfl,step hb1 hb2⟩
theorem szIntS_any (A:Option Addr) (c n:Nat) (l:Int) (w:World) (hm:n<=9223372036854775807) (h0:0<=l) (h1:l<=1099511627776):
 Calls Tryz.prog 85 #[.slice A n c,.int .i64 l] w fun e w'=>e=.returned (.int .i64 (if (n:Int)<=l then l-n else -1))/\w=w':=by
 have e1:wrap64 (l-n)=l-n:=IntWalk.wrap64_in _ ⟨by omega,by omega⟩
 by_cases hn:(n:Int)<=l
 ·go_enter Tryz.func85,Tryz.ntmps85
  go_wp2
  go_ret
  exact ⟨rfl,rfl⟩
 ·go_enter Tryz.func85,Tryz.ntmps85
  go_wp2
  go_ret
  exact ⟨rfl,rfl⟩
theorem szRule_any (A:Option Addr) (c n:Nat) (k v l:Int) (w:World) (hm:n<=9223372036854775807) (h0:0<=l) (h1:l<=1099511627776):
 Calls Tryz.prog 136 #[.agg #[.int .i64 k,.slice A n c,.int .i64 v],.int .i64 l] w fun e w'=>e=.returned (.int .i64 (if (n:Int)<=l then l-n else -1))/\Below w.heap.size w w':=by
 have hx:=rbox_new w k A n c v 147;have hb0:Below w.heap.size w (w.alloc (.cells #[.int .i64 k,.slice A n c,.int .i64 v] 147)):=(Below.refl _ _).alloc (Nat.le_refl _) _;obtain ⟨a0,a1,a2⟩:=id hx;obtain ⟨r,hr⟩:∃ r,r=(if (n:Int)<=l then l-(n:Int) else -1):=⟨_,rfl⟩;have HC:=Lib.hid (fun w=>szIntS_any A c n l w hm h0 h1);rw [<- hr] at HC ⊢
 by_cases hr0:r<0
 ·have hr1:r= -1:=by rw [hr] at hr0 ⊢;split at hr0<;>omega
  have HR:=Lib.hid hr1;clear hr hr1
  go_enter Tryz.func136,Tryz.ntmps136
  go_wp2_with (go_at_call 85;refine (HC.out _).mono ?_;rintro e w2 ⟨rfl,rfl⟩)
  go_ret
  exact ⟨by rw [HR.out];rfl,hb0⟩
 ·clear hr
  go_enter Tryz.func136,Tryz.ntmps136
  go_wp2_with (go_at_call 85;refine (HC.out _).mono ?_;rintro e w2 ⟨rfl,rfl⟩)
  go_ret
  exact ⟨rfl,hb0⟩
end Go.Proofs.YtkeoflnmbcdmfaaGreatDoor
set_option maxRecDepth 8000
namespace Go.Proofs.YtkeoflnmbcdmfaaGreatDoor
open Go.ChangeShapes Go.WideShapes Go.ChangeAt Go.RowKit
theorem row_max {k:IntKind} {w:World} {a:Option Addr} {len cap:Nat} {zs:List Int} (h:IsRow k w a len cap zs):len<=9223372036854775807:=by
 rcases h with ⟨rfl,rfl,rfl,rfl⟩|⟨x,rfl,hl,hm,_⟩
 ·omega
 ·simp only [maxLen] at hm;omega
theorem below_undrew {w w2:World} (h:Below w.drew.heap.size w.drew w2):Below w.heap.size w w2:=⟨h.os,h.tape,h.output,h.size,h.block⟩
theorem szRule_big (A:Option Addr) (c n:Nat) (k v:Int) (w:World) (hn:¬ n<=1048576) (hm:n<=9223372036854775807):
 Calls Tryz.prog 136 #[.agg #[.int .i64 k,.slice A n c,.int .i64 v],.int .i64 1048576] w fun e w'=>e=.returned (.int .i64 (-1))/\Below w.heap.size w w':=by
 refine (szRule_any A c n k v 1048576 w hm (by omega) (by omega)).mono ?_;rintro e w' ⟨rfl,hb⟩;exact ⟨by rw [if_neg (by omega)],hb⟩
end Go.Proofs.YtkeoflnmbcdmfaaGreatDoor
set_option maxRecDepth 8000
namespace Go.Proofs.YtkeoflnmbcdmfaaGreatDoor
open Go.ChangeShapes Go.WideShapes Go.ChangeAt Go.RowKit
def DrawnRule (w:World) (e:Ending) (w':World):Prop:=
 ∃ (k:Int) (A:Option Addr) (n c:Nat) (v:Int) (xs:List Int) (s:Int),e=.returned (.tuple #[.agg #[.int .i64 k,.slice A n c,.int .i64 v],.int .i64 s])/\Ow w' w.heap.size A n c xs/\n<=5/\ -1<=s/\s<=5/\Below w.heap.size w w'
end Go.Proofs.YtkeoflnmbcdmfaaGreatDoor
