import Derived.Test.YtkeoflnmbcdmfaaGreatDoorR4P
import Derived.Deep.RegionHeld3
set_option maxRecDepth 8000
namespace Go.Proofs.YtkeoflnmbcdmfaaGreatDoor
open Go.ChangeShapes Go.WideShapes Go.ChangeAt Go.RowKit
structure RuleM where
 k:Int
 xs:List Int
 v:Int
def rnone:RuleM:=⟨0,[],0⟩
def rat (rs:List RuleM) (i:Nat):RuleM:=rs.getD i rnone
def RdRs (w:World) (B:Nat) (A:Option Addr) (n:Nat) (rs:List RuleM):Prop:=
 rs.length=n/\(0<n->∃ b off,A=some ⟨b,off,none⟩/\b<B/\∀ i,i<n->∃ A' c',w.cell? ⟨b,off+i*3,none⟩=some (.int .i64 (rat rs i).k)/\w.cell? ⟨b,off+i*3+1,none⟩=some (.slice A' (rat rs i).xs.length c')/\w.cell? ⟨b,off+i*3+2,none⟩=some (.int .i64 (rat rs i).v)/\Rd w B A' (rat rs i).xs.length (rat rs i).xs/\(rat rs i).xs.length<=1099511627776)
theorem RdRs.below {w w':World} {B:Nat} {A:Option Addr} {n:Nat} {rs:List RuleM} (h:RdRs w B A n rs) (hb:Below B w w'):RdRs w' B A n rs:=
 ⟨h.1,fun hn=>by
   obtain ⟨b,off,e,hlt,hc⟩:=h.2 hn;refine ⟨b,off,e,hlt,fun i hi=>?_⟩;obtain ⟨A',c',h0,h1,h2,h3,h4⟩:=hc i hi
   exact ⟨A',c',(hb.cell (p:=⟨b,off+i*3,none⟩) hlt).trans h0,(hb.cell (p:=⟨b,off+i*3+1,none⟩) hlt).trans h1,(hb.cell (p:=⟨b,off+i*3+2,none⟩) hlt).trans h2,h3.below hb,h4⟩⟩
def PBox (w:World) (g:Nat) (s:Int) (Ag:Option Addr) (ng cg:Nat) (Ar:Option Addr) (nr cr:Nat):Prop:=w.cell? ⟨g,0,none⟩=some (.int .i64 s)/\w.cell? ⟨g,1,none⟩=some (.slice Ag ng cg)/\w.cell? ⟨g,2,none⟩=some (.slice Ar nr cr)
theorem PBox.below {w w':World} {g B:Nat} {s:Int} {Ag:Option Addr} {ng cg:Nat} {Ar:Option Addr} {nr cr:Nat} (h:PBox w g s Ag ng cg Ar nr cr) (hg:g<B) (hb:Below B w w'):PBox w' g s Ag ng cg Ar nr cr:=
 ⟨(hb.cell (p:=⟨g,0,none⟩) hg).trans h.1,(hb.cell (p:=⟨g,1,none⟩) hg).trans h.2.1,(hb.cell (p:=⟨g,2,none⟩) hg).trans h.2.2⟩
theorem pbox_new (w:World) (s:Int) (Ag:Option Addr) (ng cg:Nat) (Ar:Option Addr) (nr cr:Nat) (t:TypeId):PBox (w.alloc (.cells #[.int .i64 s,.slice Ag ng cg,.slice Ar nr cr] t)) w.heap.size s Ag ng cg Ar nr cr:=
 ⟨cell_of_row _ _ 0 _ _ (0,0) (heap_alloc_new w _),cell_of_row _ _ 1 _ _ (0,0) (heap_alloc_new w _),cell_of_row _ _ 2 _ _ (0,0) (heap_alloc_new w _)⟩
def allR (p:RuleM->Bool) (rs:List RuleM) (k:Nat):Prop:=∀ i,i<k->p (rat rs i)=true
def rvR (s:Int) (r:RuleM):Bool:=rv r.k r.xs r.v s
def pvB (s:Int) (g:List Int) (rs:List RuleM):Bool:=((List.range rs.length).all fun i=>rvR s (rat rs i))&&gv g s&&decide (rs.length<=20)
theorem all_rat {p:RuleM->Bool} {rs:List RuleM} {n:Nat} (hl:rs.length=n) (h:allR p rs n):((List.range rs.length).all fun i=>p (rat rs i))=true:=
 List.all_eq_true.2 (fun i hi=>h i (by rw [List.mem_range] at hi;omega))
theorem not_all_rat {p:RuleM->Bool} {rs:List RuleM} {n i:Nat} (hl:rs.length=n) (hi:i<n) (h:p (rat rs i)=false):((List.range rs.length).all fun i=>p (rat rs i))=false:=by
 cases e:(List.range rs.length).all fun i=>p (rat rs i)
 ·rfl
 ·have:=List.all_eq_true.1 e i (List.mem_range.2 (by omega));rw [h] at this;cases this
set_option maxHeartbeats 1000000 in
theorem specPuzzleValid (s:Int) (Ag:Option Addr) (ng cg Bg:Nat) (g:List Int) (Ar:Option Addr) (nr cr Br:Nat) (rs:List RuleM) (w:World) (hg:Rd w Bg Ag ng g) (hBg:Bg<=w.heap.size) (hmg:ng<=1099511627776) (hr:RdRs w Br Ar nr rs) (hBr:Br<=w.heap.size) (hmr:nr<=1099511627776):
 Calls Tryz.prog 25 #[.agg #[.int .i64 s,.slice Ag ng cg,.slice Ar nr cr]] w fun e w'=>e=.returned (.bool (pvB s g rs))/\Below w.heap.size w w':=by
 have hlen:=Lib.hid hr.1;have hx0:=pbox_new w s Ag ng cg Ar nr cr 26;have hb0:Below w.heap.size w (w.alloc (.cells #[.int .i64 s,.slice Ag ng cg,.slice Ar nr cr] 26)):=(Below.refl _ _).alloc (Nat.le_refl _) _
 have hs0:w.heap.size+1<=(w.alloc (.cells #[.int .i64 s,.slice Ag ng cg,.slice Ar nr cr] 26)).heap.size:=by simp
 go_enter Tryz.func25,Tryz.ntmps25
 go_wp2
 go_loopw [3] (fun i wr=>∃ u:Nat,u<=nr/\i=.int .i64 u/\Hid (allR (rvR s) rs u)/\PBox wr w.heap.size s Ag ng cg Ar nr cr/\Below w.heap.size w wr/\w.heap.size+1<=wr.heap.size) (fun i _=>nr-(intOf i).toNat)
 case atStart=>exact ⟨0,Nat.zero_le _,rfl,Lib.hid (fun j hj=>absurd hj (by omega)),hx0,hb0,hs0⟩
 case round=>
  obtain ⟨u,hu,rfl,hall,hx,hb,hsw⟩:=hrel;obtain ⟨c0,c1,c2⟩:=id hx
  by_cases hlt:u<nr
  ·obtain ⟨b,off,hAr,hbB,hcc⟩:=(hr.below (hb.mono hBr)).2 (by omega);subst hAr;obtain ⟨A',c',r0,r1,r2,r3,r4⟩:=hcc u hlt;have hbw:b<wr.heap.size:=cell_lt r0;obtain ⟨rk,hrk⟩:∃ x,x=(rat rs u).k:=⟨_,rfl⟩;obtain ⟨rx,hrx⟩:∃ x,x=(rat rs u).xs:=⟨_,rfl⟩;obtain ⟨rvv,hrv⟩:∃ x,x=(rat rs u).v:=⟨_,rfl⟩;have hrr:rvR s (rat rs u)=rv rk rx rvv s:=(by simp only [rvR,hrk,hrx,hrv]);rw [<- hrk] at r0;rw [<- hrx] at r1 r3 r4;rw [<- hrv] at r2
   have HS:Hid (∀ w',Below wr.heap.size wr w'->w'.cell? ⟨w.heap.size,0,none⟩=some (.int .i64 s)/\w'.cell? ⟨w.heap.size,2,none⟩=some (.slice (some ⟨b,off,none⟩) nr cr)/\w'.cell? ⟨b,off+u*3,none⟩=some (.int .i64 rk)/\w'.cell? ⟨b,off+u*3+1,none⟩=some (.slice A' rx.length c')/\w'.cell? ⟨b,off+u*3+2,none⟩=some (.int .i64 rvv)):=
    Lib.hid (fun w' hb=>⟨(hb.cell (p:=⟨w.heap.size,0,none⟩) (show w.heap.size<_ by omega)).trans c0,(hb.cell (p:=⟨w.heap.size,2,none⟩) (show w.heap.size<_ by omega)).trans c2,(hb.cell (p:=⟨b,off+u*3,none⟩) hbw).trans r0,(hb.cell (p:=⟨b,off+u*3+1,none⟩) hbw).trans r1,(hb.cell (p:=⟨b,off+u*3+2,none⟩) hbw).trans r2⟩)
   have HC:=Lib.hid (fun w' (hbb:Below wr.heap.size wr w')=>specRuleValid A' c' rx.length Br rx rk rvv s w' (r3.below (hbb.mono (Nat.le_trans hBr hb.size))) (Nat.le_trans (Nat.le_trans hBr hb.size) hbb.size) r4);clear hrk hrx hrv hcc;cases hv:rv rk rx rvv s
   ·have HL:=Lib.hid (show pvB s g rs=false by unfold pvB;rw [not_all_rat hlen.out hlt (hrr.trans hv)];rfl)
    go_wp2
    go_region_held3 (fun w'=>w'.cell? ⟨w.heap.size,0,none⟩=some (.int .i64 s)/\w'.cell? ⟨w.heap.size,2,none⟩=some (.slice (some ⟨b,off,none⟩) nr cr)/\w'.cell? ⟨b,off+u*3,none⟩=some (.int .i64 rk)/\w'.cell? ⟨b,off+u*3+1,none⟩=some (.slice A' rx.length c')/\w'.cell? ⟨b,off+u*3+2,none⟩=some (.int .i64 rvv))
     (first|go_keep|exact HS.out _ hb5)
     ((go_simp;go_at_call 71;refine (HC.out _ (Below.refl _ _).drew).mono ?_;rintro e w5 ⟨rfl,hb4⟩;rw [hv];have hb5:Below wr.heap.size wr w5:=((Below.refl _ _).drew).trans hb4))
    go_wp2
    go_ret
    exact ⟨by rw [HL.out];rfl,hb.trans (hb5.mono hb.size)⟩
   ·have hall2:=Lib.hid (show allR (rvR s) rs (u+1) from fun i hi=>by
     by_cases e:i=u
     ·subst e;exact hrr.trans hv
     ·exact hall.out i (by omega))
    go_wp2
    go_region_held3 (fun w'=>w'.cell? ⟨w.heap.size,0,none⟩=some (.int .i64 s)/\w'.cell? ⟨w.heap.size,2,none⟩=some (.slice (some ⟨b,off,none⟩) nr cr)/\w'.cell? ⟨b,off+u*3,none⟩=some (.int .i64 rk)/\w'.cell? ⟨b,off+u*3+1,none⟩=some (.slice A' rx.length c')/\w'.cell? ⟨b,off+u*3+2,none⟩=some (.int .i64 rvv))
     (first|go_keep|exact HS.out _ hb5)
     ((go_simp;go_at_call 71;refine (HC.out _ (Below.refl _ _).drew).mono ?_;rintro e w5 ⟨rfl,hb4⟩;rw [hv];have hb5:Below wr.heap.size wr w5:=((Below.refl _ _).drew).trans hb4))
    go_wp2
    go_roundw
    case rel=>exact ⟨u+1,by omega,by go_num,hall2,hx.below (by omega) hb5,hb.trans (hb5.mono hb.size),Nat.le_trans hsw hb5.size⟩
    case measure=>simp [intOf];omega
  ·obtain rfl:u=nr:=by omega
   have hP:pvB s g rs=(gv g s&&decide (u<=20)):=(by unfold pvB;rw [all_rat hlen.out hall.out,hlen.out,Bool.true_and]);cases hgv:gv g s
   ·have HL:=Lib.hid (show pvB s g rs=false by rw [hP,hgv];rfl)
    go_wp2_with (go_at_call 72;refine (specGridValid _ _ _ _ _ _ _ (hg.below (hb.mono hBg)) hmg).mono ?_;rintro e w' ⟨rfl,rfl⟩;rw [hgv])
    go_ret
    exact ⟨by rw [HL.out];rfl,hb⟩
   ·by_cases h20:u<=20
    ·have HL:=Lib.hid (show pvB s g rs=true by rw [hP,hgv,decide_eq_true h20];rfl);have h20':(u:Int)<=20:=(by omega)
     go_wp2_with (go_at_call 72;refine (specGridValid _ _ _ _ _ _ _ (hg.below (hb.mono hBg)) hmg).mono ?_;rintro e w' ⟨rfl,rfl⟩;rw [hgv])
     go_ret
     exact ⟨by rw [HL.out];rfl,hb⟩
    ·have HL:=Lib.hid (show pvB s g rs=false by rw [hP,hgv,decide_eq_false h20];rfl);have h20':¬ (u:Int)<=20:=(by omega)
     go_wp2_with (go_at_call 72;refine (specGridValid _ _ _ _ _ _ _ (hg.below (hb.mono hBg)) hmg).mono ?_;rintro e w' ⟨rfl,rfl⟩;rw [hgv])
     go_ret
     have hdf:decide ((u:Int)<=20)=false:=(by simp;omega);exact ⟨by rw [HL.out,<-hdf];rfl,hb⟩
end Go.Proofs.YtkeoflnmbcdmfaaGreatDoor
