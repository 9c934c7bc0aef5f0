import Derived.Test.YtkeoflnmbcdmfaaGreatDoorHBI7
set_option maxRecDepth 8000
namespace Go.Proofs.YtkeoflnmbcdmfaaGreatDoor
open Go.ChangeShapes Go.WideShapes Go.ChangeAt Go.RowKit
theorem npL_gU {m:List Int} {s:Nat} (hs:s∈[2,3,4]) (hm:mvd m s=true):npL m s=gU m s (2*s):=by
 unfold npL;rw [if_pos hm,Int.toNat_natCast,gU_is hs hm _ (Nat.le_refl _)]
theorem gU_sub {m:List Int} {s:Nat} (hs:s∈[2,3,4]) (hm:mvd m s=true) (u:Nat) (hu:u<=2*s):Sub (gU m s u) m:=by
 rw [gU_is hs hm u hu];exact pU_sub hm u
theorem an_sub32 {x:Int} {y:Nat} (hx:0<=x/\x<=30/\x.tmod 2=0) (hy:y<32):0<=bits .andNot .i64 x y/\bits .andNot .i64 x y<=x/\(bits .andNot .i64 x y).tmod 2=0:=by
 obtain ⟨a,rfl⟩:=Int.eq_ofNat_of_zero_le hx.1;obtain ⟨q1,q2,q3⟩:=an_key a (by omega) y hy;exact ⟨q1,q2,q3 (by have:=hx.2.2;rw [Int.tmod_eq_emod_of_nonneg (by omega)] at this;omega)⟩
theorem gL_sub {m o:List Int} {s u:Nat} {S:Int} {C:Nat->Nat} (hm:mvd m S=true) (h:Sub o m) (k:Nat):Sub (gL m s u C o k) m:=by
 induction k with
 |zero=>exact h
 |succ k ih=>
  simp only [gL]
  exact ih.put fun hk=>by
   obtain ⟨h1,h2⟩:=ih.at_ hm hk;obtain ⟨q1,q2,q3⟩:=an_sub32 h1 (tkF_lt C (lv m s u k) 32 (Nat.le_refl _));exact ⟨q1,by omega,q3⟩
def npG (g q n cc bm om c:Nat) (C:Nat->Nat) (X:Int) (y tk:Nat) (z:Int):Nat->Value->Prop
 |0,v=>v=.slice (some ⟨g,0,none⟩) n cc
 |1,v=>v=.int .i64 q
 |2,v=>v=.pointer (some ⟨g,q,none⟩)
 |3,v=>v=.int .i64 X
 |4,v=>v=.agg (kcells C)
 |5,v=>v=.slice (some ⟨bm,om,none⟩) n c
 |6,v=>v=.int .i64 q
 |7,v=>v=.pointer (some ⟨bm,om+q,none⟩)
 |8,v=>v=.int .i64 y
 |9,v=>v=.int .i64 tk
 |10,v=>v=.int .i64 z
 |11,v=>v=.pointer (some ⟨g,q,none⟩)
 |_,_=>True
theorem kload (C:Nat->Nat) (g:Nat) (w:World) (h:KBox w g C):(Instr.loadAt 201 (.pointer (some ⟨g,0,none⟩))).run Tryz.prog w=.ok (.agg (kcells C)) w:=by
 simp only [Instr.loadAt,Instr.sureAddr,Sem.run_bind,Sem.run_pure,Result.andThen_ok,run_loadVar_row w g 201 201 (kcells C) (0,0) _ h Tryz.underlying201 rfl (kinfo C)]
theorem kput (w:World) (C:Nat->Nat) (W:World) (h:(w.alloc (.cells #[.int .i64 0,.int .i64 0,.int .i64 0,.int .i64 0,.int .i64 0,.int .i64 0,.int .i64 0,.int .i64 0,.int .i64 0,.int .i64 0,.int .i64 0,.int .i64 0,.int .i64 0,.int .i64 0,.int .i64 0,.int .i64 0,.int .i64 0,.int .i64 0,.int .i64 0,.int .i64 0,.int .i64 0,.int .i64 0,.int .i64 0,.int .i64 0,.int .i64 0,.int .i64 0,.int .i64 0,.int .i64 0,.int .i64 0,.int .i64 0,.int .i64 0,.int .i64 0] 201)).setRow w.heap.size (kcells C)=W):KBox W w.heap.size C/\Below w.heap.size w W:=by
 rw [<- h];exact ⟨setRow_heap _ _ _ _ _ _ (heap_alloc_new w (.cells (kcells fun _=>0) 201)),setRow_below ((Below.refl _ _).alloc (Nat.le_refl _) _) (Nat.le_refl _)⟩
theorem kz_new (w:World):(w.alloc (.cells #[.int .i64 0,.int .i64 0,.int .i64 0,.int .i64 0,.int .i64 0,.int .i64 0,.int .i64 0,.int .i64 0,.int .i64 0,.int .i64 0,.int .i64 0,.int .i64 0,.int .i64 0,.int .i64 0,.int .i64 0,.int .i64 0,.int .i64 0,.int .i64 0,.int .i64 0,.int .i64 0,.int .i64 0,.int .i64 0,.int .i64 0,.int .i64 0,.int .i64 0,.int .i64 0,.int .i64 0,.int .i64 0,.int .i64 0,.int .i64 0,.int .i64 0,.int .i64 0] 201)).heap[w.heap.size]? =some (.cells (kcells fun _=>0) 201 (0,0)):=heap_alloc_new w (.cells (kcells fun _=>0) 201)
set_option maxHeartbeats 2000000 in
theorem implNarrowPairs (A:Option Addr) (c n B:Nat) (m:List Int) (size:Int) (w:World) (h:Rd w B A n m) (hm64:B64 m) (hBm:B<=w.heap.size) (hm:n<=1099511627776) (hsb: -9223372036854775808<=size/\size<=9223372036854775807):
 Calls Tryz.prog 188 #[.slice A n c,.int .i64 size] w (RetSl w (npL m size)):=by
 have hlen:=Lib.hid h.1;have HV:=Lib.hid (implMasksValid A c n B m size w h hm64 hBm hm hsb);cases hv:mvd m size
 ·have HL:=Lib.hid (show npL m size=[] by simp [npL,hv])
  go_enter Tryz.func188,Tryz.ntmps188
  go_wp2_with (go_at_call 83;refine HV.out.mono ?_;rintro e w1 ⟨rfl,hb1⟩;rw [hv])
  go_ret
  rw [HL.out];exact ⟨_,_,rfl,Ow.nil_ _ _,hb1⟩
 ·obtain ⟨⟨s2,s4⟩,hsq,hn16,_⟩:=mvd_at hv;obtain ⟨s,rfl⟩:=Int.eq_ofNat_of_zero_le (by omega:0<=size)
  have hs:s∈[2,3,4]:=by simp;omega
  have hn:n=s*s:=by rw [<- hlen.out];exact len_of hs hv
  have hn0:0<n:=by
   simp at hs
   rcases hs with rfl|rfl|rfl<;>omega
  have Hs:=Lib.hid hs;have Hn:=Lib.hid hn;have Hv:=Lib.hid hv
  have hs2':2<=s:=by omega
  have hs4':s<=4:=by omega
  have HCl:=Lib.hid (fun w' (hb:Below w.heap.size w w')=>clone_any A n c B m w' (h.below (hb.mono hBm)) (Nat.le_trans hBm hb.size) hn0 hm);have HF:=Lib.hid (npL_gU hs hv);obtain ⟨T,hT⟩:∃ T,T=2*s:=⟨_,rfl⟩;rw [<- hT] at HF;have HT:=Lib.hid hT
  have hT8:T<=8:=by omega
  clear hs hn hT hsq hn16
  go_enter Tryz.func188,Tryz.ntmps188
  go_wp2_with (first
   |(go_at_call 83;refine HV.out.mono ?_;rintro e w1 ⟨rfl,hb1⟩;rw [Hv.out])
   |(go_at_call 70;refine (HCl.out _ hb1).mono ?_;rintro e w2 ⟨Ac,cc,rfl,ho2,hb2⟩;have hb12:=step hb1 hb2))
  have ho3:=ho2.mono hb1.size;obtain ⟨g,rfl,hgl,hgw⟩:=ho3.form hn0
  go_loopw [19] (fun i wr=>∃ u:Nat,u<=T/\i=.int .i64 u/\Ow wr w.heap.size (some ⟨g,0,none⟩) n cc (gU m s u)/\Below w.heap.size w wr) (fun i _=>T-(intOf i).toNat)
  case atStart=>exact ⟨0,Nat.zero_le _,rfl,ho3,hb12⟩
  case round=>
   clear ho2 ho3 hb12 hb1 hb2;obtain ⟨u,hu,rfl,ho,hb⟩:=hrel
   by_cases hlt:u<T
   ·have hltI:(u:Int)<2*(s:Int):=(by have:=HT.out;omega);have hu2:=Lib.hid (show u<2*s by have:=HT.out;omega);have HLc:=Lib.hid (lineCells_line Hs.out hu2.out (implLineCells s u wr ⟨by omega,by omega⟩));have HPk:=Lib.hid (fun w' (hb:Below w.heap.size w w') A3 c3 (ho:Ow w' w.heap.size A3 s c3 (lineTo s u s))=>implPick A c n B m A3 c3 s w'.heap.size (lineTo s u s) w' (h.below (hb.mono hBm)) ho.rd (Nat.le_trans hBm hb.size) (Nat.le_refl _) (by omega) (by rw [Hn.out];exact lineTo_small Hs.out hu2.out));have HCo:=Lib.hid (fun w' A4 c4 (hr:Rd w' w'.heap.size A4 s (pks m (lineTo s u s) s))=>countsOf_any A4 c4 s w'.heap.size _ (lv m s u) w' hr (Nat.le_refl _) (by omega) (Lib.hid (pks_line Hv.out)))
    obtain ⟨C,hC⟩:∃ C:Nat->Nat,C=fun x=>cN (lv m s u) x s:=⟨_,rfl⟩
    have hC4:=Lib.hid (show ∀ x,C x<=4 by rw [hC];intro x;exact Nat.le_trans (cN_le (lv m s u) x s) hs4');have HG:=Lib.hid (show gU m s (u+1)=gL m s u C (gU m s u) s by rw [hC];rfl);rw [<- hC] at HCo;have Hi:=Lib.hid (kinfo C);have Hone:=Lib.hid (kone C);have Hz:=Lib.hid (fun w'=>kz_new w');have Hpl:=Lib.hid (show (pks m (lineTo s u s) s).length=s from mapTo_length _ _);have hat:=Lib.hid (line_in7 Hs.out hu2.out);rw [<- Hn.out] at hat;have Hsub:=Lib.hid (fun k=>gL_sub (s:=s) (u:=u) (C:=C) Hv.out (gU_sub Hs.out Hv.out u (by have:=hu2.out;omega)) k);clear hC
    go_wp2_with (first
     |(go_at_call 196;refine HLc.out.mono ?_;rintro e w3 ⟨A3,c3,rfl,ho3',hb3⟩;have hb13:=step hb hb3;have ho3:=ho3'.mono hb.size;have ho3g:=ho3'.mono (show g+1<=wr.heap.size from ho.own_hi g rfl);clear ho3';have hoA:=ho.below hb3)
     |(go_at_call 181;refine (HPk.out _ hb13 _ _ ho3).mono ?_;rintro e w4 ⟨A4,c4,rfl,ho4,hb4⟩;rw [Hpl.out] at ho4 ⊢;have hb14:=step hb13 hb4;have hr4:=ho4.rd;have ho34:=ho3g.below hb4;have hoB:=hoA.below hb4)
     |(go_at_call 197;refine (HCo.out _ _ _ hr4).mono ?_;rintro e w5 ⟨rfl,hb5⟩;have hb15:=step hb14 hb5;have ho35:=ho34.below hb5;have hoC:=hoB.below hb5;have hw5:=hb15.size;have hgw5:=hoC.own_hi g rfl)
     |(refine wpList_store_row rfl 201 _ _ rfl w5.heap.size (kcells C) rfl rfl 201 (kcells fun _=>0) (Hz.out w5) Hi.out rfl Hone.out ?_;generalize hW5:World.setRow _ _ _=W5;obtain ⟨hkb0,hbW⟩:=kput w5 C W5 hW5;clear hW5;obtain ⟨gk,hgk⟩:∃ gk,w5.heap.size=gk:=⟨_,rfl⟩;have hkb:=Lib.hid hkb0;clear hkb0;have hb16:=step hb15 hbW;have ho36:=ho35.below hbW;have hoD:=hoC.below hbW;rw [hgk] at hkb ⊢;rw [hgk] at hgw5))
    go_loopw [31] (fun i wr=>∃ k:Nat,k<=s/\i=.int .i64 k/\Ow wr w.heap.size (some ⟨g,0,none⟩) n cc (gL m s u C (gU m s u) k)/\Ow wr (g+1) A3 s c3 (lineTo s u s)/\Hid (KBox wr gk C)/\Below w.heap.size w wr) (fun i _=>s-(intOf i).toNat)
    case atStart=>exact ⟨0,Nat.zero_le _,rfl,hoD,ho36,hkb,hb16⟩
    case round=>
     clear hoD ho36 hkb hb16;obtain ⟨k,hk,rfl,hoN,hoL,hkb,hbN⟩:=hrel
     by_cases hks:k<s
     ·obtain ⟨q,hq,hqc,hqn⟩:=hat.out k hks;obtain ⟨g3,rfl,_,_⟩:=hoL.form (by omega);obtain ⟨hcl,_⟩:=hoL.cell hks;rw [lineTo_nth hks,hq] at hcl;obtain ⟨bm,offm,hA,hbmB,hcm⟩:=(h.below (hbN.mono hBm)).at_ hqn;subst hA;obtain ⟨hcn,hfn⟩:=hoN.cell hqn;have hvq:=lv_int (S:=(s:Int)) (u:=(u:Int)) Hv.out k;rw [hqc] at hvq;rw [hvq] at hcm;have hv32:=lv_lt (S:=(s:Int)) (u:=(u:Int)) Hv.out k;have HTk:=Lib.hid (fun w'=>taken_any C (lv m s u k) w' hC4.out);obtain ⟨X,hX⟩:∃ X,nth (gL m s u C (gU m s u) k) q=X:=⟨_,rfl⟩;obtain ⟨y,hy⟩:∃ y,lv m s u k=y:=⟨_,rfl⟩
      obtain ⟨tk,htk⟩:∃ tk,tkF C y 32=tk:=⟨_,rfl⟩;obtain ⟨z,hz⟩:∃ z,bits .andNot .i64 X (tk:Int)=z:=⟨_,rfl⟩;have HG1:=Lib.hid (show gL m s u C (gU m s u) (k+1)=(gL m s u C (gU m s u) k).set q z by simp only [gL];rw [hqc,hX,hy,htk,hz]);rw [hX] at hcn;rw [hy] at hcm hv32 HTk;rw [htk] at HTk;have Hz':=Lib.hid hz;have hgN:=hoN.own_hi g rfl;have hgkN:=hkb.out.lt;have hqI:(q:Int)<(n:Int):=(by omega);have hbmN:bm<wr.heap.size:=Nat.lt_of_lt_of_le hbmB (Nat.le_trans hBm hbN.size);have HoN:=Lib.hid hoN;have HoL:=Lib.hid hoL;clear hX hy htk hz hoN hoL hvq
      go_wp2
      refine wp_region_dsS [35,36,37,38,39,40,41,42,43,44,45,46] (fun j v _=>npG g q n cc bm offm c C X y tk z j v) (fun w1 w2=>Below w1.heap.size w1 w2) (fun _ _ _=>True) (fun _ _=>True) (fun _=>trivial) (below_drewN (Below.refl _ _) 1) (fun _ _ h h'=>step h h') (by kernel_rfl) (by kernel_rfl) (by simp) (fun _ _ _ _ _ _ _ _ h=>h) ?step ?last
      case step=>
       intro i o a w' K D hD hcl2 hi hoo hrel hfr hpre hC hK;have e0:a.eval (.tmp 0)=.slice (some ⟨bm,offm,none⟩) n c:=hfr 0 (by simp);have e5:a.eval (.tmp 5)=.slice (some ⟨g,0,none⟩) n cc:=hfr 5 (by simp);have e8:a.eval (.tmp 8)=.pointer (some ⟨gk,0,none⟩):=hfr 8 (by simp);have e10:a.eval (.tmp 10)=.int .i64 q:=hfr 10 (by simp)
       have hkeep:∀ (v:Value),npG g q n cc bm offm c C X y tk z i v->K (a.put o.dst v) w':=fun v hv=>hK v w' (Below.refl _ _) trivial (fun j _ _ h=>h) hv
       have hkw:KBox w' gk C:=hkb.out.below hgkN hrel;have hcn':w'.cell? ⟨g,q,none⟩=some (.int .i64 X):=(hrel.cell (p:=⟨g,q,none⟩) hgN).trans hcn;have hcm':w'.cell? ⟨bm,offm+q,none⟩=some (.int .i64 y):=(hrel.cell (p:=⟨bm,offm+q,none⟩) hbmN).trans hcm;have hi12:i<12:=hi;have:i=0\/i=1\/i=2\/i=3\/i=4\/i=5\/i=6\/i=7\/i=8\/i=9\/i=10\/i=11:=(by omega)
       rcases this with rfl|rfl|rfl|rfl|rfl|rfl|rfl|rfl|rfl|rfl|rfl|rfl
       all_goals
        simp only [List.getElem?_toArray,List.getElem?_cons_zero,List.getElem?_cons_succ,Option.some.injEq] at hoo;subst hoo
       ·refine oper_val (v:=.slice (some ⟨g,0,none⟩) n cc) (w':=w') ?_ (hkeep _ rfl);unfold execOp;simp only [e5]
        go_simp
       ·refine oper_val (v:=.int .i64 q) (w':=w') ?_ (hkeep _ rfl);unfold execOp;simp only [e10]
        go_simp
       ·have p0:a.eval (.tmp 35)=.slice (some ⟨g,0,none⟩) n cc:=hpre ⟨0,.data⟩ (by simp) rfl;have p1:a.eval (.tmp 36)=.int .i64 q:=hpre ⟨1,.data⟩ (by simp) rfl;refine oper_val (v:=.pointer (some ⟨g,q,none⟩)) (w':=w') ?_ (hkeep _ rfl);unfold execOp;simp only [p0,p1]
        go_simp
       ·have p2:a.eval (.tmp 37)=.pointer (some ⟨g,q,none⟩):=hpre ⟨2,.data⟩ (by simp) rfl;refine oper_val (v:=.int .i64 X) (w':=w') ?_ (hkeep _ rfl);unfold execOp;simp only [p2]
        go_simp
       ·refine oper_val (v:=.agg (kcells C)) (w':=w') ?_ (hkeep _ rfl);unfold execOp;simp only [e8,kload C gk w' hkw,Sem.run_bind,Result.andThen_ok,Sem.run_pure]
       ·refine oper_val (v:=.slice (some ⟨bm,offm,none⟩) n c) (w':=w') ?_ (hkeep _ rfl);unfold execOp;simp only [e0]
        go_simp
       ·refine oper_val (v:=.int .i64 q) (w':=w') ?_ (hkeep _ rfl);unfold execOp;simp only [e10]
        go_simp
       ·have p0:a.eval (.tmp 40)=.slice (some ⟨bm,offm,none⟩) n c:=hpre ⟨5,.data⟩ (by simp) rfl;have p1:a.eval (.tmp 41)=.int .i64 q:=hpre ⟨6,.data⟩ (by simp) rfl;refine oper_val (v:=.pointer (some ⟨bm,offm+q,none⟩)) (w':=w') ?_ (hkeep _ rfl);unfold execOp;simp only [p0,p1]
        go_simp
       ·have p2:a.eval (.tmp 42)=.pointer (some ⟨bm,offm+q,none⟩):=hpre ⟨7,.data⟩ (by simp) rfl;refine oper_val (v:=.int .i64 y) (w':=w') ?_ (hkeep _ rfl);unfold execOp;simp only [p2]
        go_simp
       ·have p0:a.eval (.tmp 39)=.agg (kcells C):=hpre ⟨4,.data⟩ (by simp) rfl;have p1:a.eval (.tmp 43)=.int .i64 y:=hpre ⟨8,.data⟩ (by simp) rfl;refine oper_call (f:=198) (args:= #[.agg (kcells C),.int .i64 y]) ?_ (HTk.out w') ?_
        ·unfold execOp
         go_simp
         exact ⟨by simpa [Act.eval] using p0,by simpa [Act.eval] using p1⟩
        ·rintro e w8 ⟨rfl,hb8⟩;exact ⟨_,rfl,hK _ w8 hb8 trivial (fun j _ _ h=>h) rfl⟩
       ·have p0:a.eval (.tmp 38)=.int .i64 X:=hpre ⟨3,.data⟩ (by simp) rfl;have p1:a.eval (.tmp 44)=.int .i64 tk:=hpre ⟨9,.data⟩ (by simp) rfl;refine oper_val (v:=.int .i64 z) (w':=w') ?_ (hkeep _ rfl);unfold execOp;simp only [p0,p1]
        go_simp
        exact Hz'.out
       ·have p0:a.eval (.tmp 35)=.slice (some ⟨g,0,none⟩) n cc:=hpre ⟨0,.data⟩ (by simp) rfl;have p1:a.eval (.tmp 36)=.int .i64 q:=hpre ⟨1,.data⟩ (by simp) rfl;refine oper_val (v:=.pointer (some ⟨g,q,none⟩)) (w':=w') ?_ (hkeep _ rfl);unfold execOp;simp only [p0,p1]
        go_simp
      case last=>
       intro o a w5 hoo hrel hdef htm hfr hpre;simp only [List.length_cons,List.length_nil,Nat.reduceAdd,List.getElem?_toArray,List.getElem?_cons_zero,List.getElem?_cons_succ,Option.some.injEq] at hoo;subst hoo;have g0:a.tmps.getD 35 undef=.slice (some ⟨g,0,none⟩) n cc:=hpre 0 (by simp);have g1:a.tmps.getD 36 undef=.int .i64 q:=hpre 1 (by simp);have g2:a.tmps.getD 37 undef=.pointer (some ⟨g,q,none⟩):=hpre 2 (by simp);have g3:a.tmps.getD 38 undef=.int .i64 X:=hpre 3 (by simp);have g4:a.tmps.getD 39 undef=.agg (kcells C):=hpre 4 (by simp);have g5:a.tmps.getD 40 undef=.slice (some ⟨bm,offm,none⟩) n c:=hpre 5 (by simp)
       have g6:a.tmps.getD 41 undef=.int .i64 q:=hpre 6 (by simp);have g7:a.tmps.getD 42 undef=.pointer (some ⟨bm,offm+q,none⟩):=hpre 7 (by simp);have g8:a.tmps.getD 43 undef=.int .i64 y:=hpre 8 (by simp);have g9:a.tmps.getD 44 undef=.int .i64 tk:=hpre 9 (by simp);have g10:a.tmps.getD 45 undef=.int .i64 z:=hpre 10 (by simp);have g11:a.tmps.getD 46 undef=.pointer (some ⟨g,q,none⟩):=hpre 11 (by simp);have h45:a.eval (.tmp 45)=.int .i64 z:=g10;have h46:a.eval (.tmp 46)=.pointer (some ⟨g,q,none⟩):=g11;have ho5:=HoN.out.below hrel;obtain ⟨hc5,hf5⟩:=ho5.cell hqn;have hop:=Lib.hid (ho5.putN q z);have hb5:=Lib.hid (Below.setCell (p:=(⟨g,q,none⟩:Addr)) (hbN.trans (hrel.mono hbN.size)) hgl (.int .i64 z));have hL5:=Lib.hid (HoL.out.below hrel);have hk5:=Lib.hid (hkb.out.below hgkN hrel);refine ⟨w5.setCell ⟨g,q,none⟩ (.int .i64 z),?_,?_⟩
       ·unfold execOp;simp only [h45,h46]
        go_simp
       ·have key:=htm;simp only [List.foldl_cons,List.foldl_nil,g0,g1,g2,g3,g4,g5,g6,g7,g8,g9,g10,g11,List.setIfInBounds_toArray,List.set_cons_succ,List.set_cons_zero] at key;clear htm hfr hpre g0 g1 g2 g3 g4 g5 g6 g7 g8 g9 g10 g11 h45 h46;obtain ⟨tm,df⟩:=a
        dsimp only at key hdef
        subst key hdef;clear hc5 hf5 ho5
        go_wp2
        go_roundw
        case rel=>exact ⟨k+1,by omega,by go_num,by rw [HG1.out];exact hop.out,hL5.out.far grown_set (fun b hb e=>by have h1:=hL5.out.own_lo b hb;injection e with e;omega),Lib.hid (hk5.out.other (by omega)),hb5.out⟩
        case measure=>simp [intOf];omega
     ·obtain rfl:k=s:=by omega
      go_wp2
      go_roundw
      case rel=>exact ⟨u+1,by omega,by go_num,by rw [HG.out];exact hoN,hbN⟩
      case measure=>simp [intOf];omega
   ·obtain rfl:u=T:=by omega
    have hgeI:¬ (u:Int)<2*(s:Int):=(by have:=HT.out;omega)
    go_wp2
    go_ret
    rw [HF.out];exact retSl_mk ho hb
theorem b64_mvd {m:List Int} {s:Int} (h:mvd m s=true):B64 m:=fun k=>by
 obtain ⟨a,b,_⟩:=mvd_nth h k;omega
theorem tabi:(Tryz.prog.info? 142).map (·.size)=some 21:=by kernel_rfl
theorem tcells_one (F:Nat->Nat) (A:Option Addr) (n c:Nat):(tcells F A n c).all (·.oneCell')=true:=by simp [tcells,Value.oneCell']
set_option maxHeartbeats 2000000 in
theorem narrowedByRules_any (s L Br:Nat) (At:Option Addr) (nt ct Bt:Nat) (rs:List RuleM) (A:Option Addr) (c nm B:Nat) (m:List Int) (w:World) (hTb:TbR w L Bt Br s rs At nt) (hBt:Bt<=w.heap.size) (hBr:Br<=Bt) (h:Rd w B A nm m) (hBm:B<=w.heap.size) (hs:s∈[2,3,4]) (hm:mvd m s=true) (hr:∀ i,i<nt->rvR s (rat rs i)=true) (hnt:nt<=20):
 Calls Tryz.prog 189 #[.agg #[.int .i64 s,.slice At nt ct],.slice A nm c] w (RetSl w (nrTo s rs m nt)):=by
 have hlen:=Lib.hid h.1;obtain ⟨⟨s2,s4⟩,hsq,hnm16,_⟩:=mvd_at hm;rw [h.1] at hsq hnm16
 have hnm0:0<nm:=by
  simp at hs
  rcases hs with rfl|rfl|rfl<;>omega
 obtain ⟨Wa,hWa⟩:∃ Wa,w.alloc (.cells #[.int .i64 s,.slice At nt ct] 94)=Wa:=⟨_,rfl⟩
 have hba:Below w.heap.size w Wa:=by rw [<- hWa];exact (Below.refl _ _).alloc (Nat.le_refl _) _
 have hsa:Wa.heap.size=w.heap.size+1:=by rw [<- hWa];simp
 have hra:Wa.heap[w.heap.size]? =some (.cells #[.int .i64 s,.slice At nt ct] 94):=by rw [<- hWa];exact heap_alloc_new w _
 have HCl:=Lib.hid (clone_any A nm c B m Wa (h.below (hba.mono hBm)) (by omega) hnm0 (by omega));have HS:=Lib.hid (fun u (hu:u<=nt)=>nrTo_sub (rs:=rs) hm (fun i hi=>hr i (by rw [<- hTb.1];exact hi)) u (by rw [hTb.1];exact hu));have HR:=Lib.hid hr;have Hm:=Lib.hid hm;have Hsq:=Lib.hid hsq;have HTb:=Lib.hid hTb;have hntl:=hTb.1;have HBa:=Lib.hid hba;clear hm hr hsq hTb hba
 go_enter Tryz.func189,Tryz.ntmps189
 go_wp2_with (go_at_call 70;refine HCl.out.mono ?_;rintro e w1 ⟨A1,c1,rfl,ho1,hb1⟩;have hr1:=(hb1.block w.heap.size (by omega)).trans hra;have hc1:=cell_of_row _ _ 1 _ _ (0,0) hr1)
 obtain ⟨g,rfl,hgl,hgw⟩:=ho1.form hnm0;have HB1:=Lib.hid (step HBa.out hb1);have hb1s:=hb1.size;clear hr1 hc1 hra hb1
 go_loopw [13] (fun i wr=>∃ u:Nat,u<=nt/\i=.int .i64 u/\Ow wr Wa.heap.size (some ⟨g,0,none⟩) nm c1 (nrTo s rs m u)/\w1.grownBy wr (some g)) (fun i _=>nt-(intOf i).toNat)
 case atStart=>exact ⟨0,Nat.zero_le _,rfl,ho1,World.grownBy.refl _ _⟩
 case round=>
  clear ho1;obtain ⟨u,hu,rfl,ho,hg⟩:=hrel
  by_cases hlt:u<nt
  ·have hltI:(u:Int)<(nt:Int):=by omega
   have hbr:Below w.heap.size w wr:=HB1.out.grown hg HB1.out.size (fun k e=>by have:=Option.some.inj e;omega);obtain ⟨b,rfl,_,hbB,hcc⟩:=(HTb.out.below (hbr.mono hBt) hBr).2 (by omega);obtain ⟨A',C',hrg,hrd⟩:=hcc u hlt;have hv0:=HR.out u hlt;obtain ⟨_,⟨hn1,hn4⟩,_,hxin⟩:=rv_facts rfl hv0;have hmu:=(HS.out u hu).mvd_ Hm.out;have HNx:Hid (nrTo s rs m (u+1)=nrIn (rat rs u).xs (rmL (rat rs u).k (rat rs u).xs (rat rs u).v (nrTo s rs m u) s) (nrTo s rs m u) (rat rs u).xs.length):=Lib.hid rfl
   have hf:=fun j (hj:j<(rat rs u).xs.length)=>nm_rm hs hv0 hmu j hj
   have hF64:=rtF_lt s (rat rs u)
   have hms:∀ i,i<nm->0<=nth (nrTo s rs m u) i/\nth (nrTo s rs m u) i<32:=fun i _=>by obtain ⟨a,b,_⟩:=mvd_nth hmu i;omega
   obtain ⟨F,hF⟩:∃ F,F=rtF s (rat rs u):=⟨_,rfl⟩;obtain ⟨f,hff⟩:∃ f,f=rmL (rat rs u).k (rat rs u).xs (rat rs u).v (nrTo s rs m u) s:=⟨_,rfl⟩;obtain ⟨xs,hxs⟩:∃ xs,xs=(rat rs u).xs:=⟨_,rfl⟩;rw [<- hff] at HNx hf;rw [<- hF] at hf hF64 hrg;rw [<- hxs] at HNx hf hrd hrg hn1 hn4 hxin;obtain ⟨l,hl⟩:∃ l,l=xs.length:=⟨_,rfl⟩;rw [<- hl] at HNx hf hrd hrg hn1 hn4 hxin;obtain ⟨o,hoo⟩:∃ o,o=nrTo s rs m u:=⟨_,rfl⟩;rw [<- hoo] at HNx hf hms ho
   have hin:∀ i,i<l->∃ q:Nat,nth xs i=(q:Int)/\q<nm:=fun i hi=>by
    obtain ⟨y0,y1⟩:=hxin i hi;obtain ⟨q,hq⟩:=Int.eq_ofNat_of_zero_le y0;exact ⟨q,hq,by have:=Hsq.out;omega⟩
   obtain ⟨W2,hW2⟩:∃ W2,(wr.alloc (.cells zeroTab 142)).setRow wr.heap.size (tcells F A' l C')=W2:=⟨_,rfl⟩;have hr2:W2.heap[wr.heap.size]? =some (.cells (tcells F A' l C') 142):=(by rw [<- hW2];exact setRow_heap (w:=wr.alloc (.cells zeroTab 142)) wr.heap.size _ _ _ _ (heap_alloc_new wr _));have hbW:Below wr.heap.size wr W2:=(by rw [<- hW2];exact ((Below.refl _ _).alloc (Nat.le_refl _) _).grown grown_sr0 (by simp) (fun k e=>by have:=Option.some.inj e;omega));have hBt2:Bt<=wr.heap.size:=Nat.le_trans hBt hbr.size;have hgr:=hg.size;have HNa:=Lib.hid (narrow_any F A' C' l Br xs f g c1 nm Wa.heap.size o W2 (hrd.below (hbW.mono (Nat.le_trans hBr hBt2))) (by omega) (ho.below hbW) hn4 hF64 hin hms hf)
   have hg2:w1.grownBy W2 (some g):=hg.trans (grown_of_below6 hbW);subst hW2;have HHr2:=Lib.hid hr2;have Hg2:=Lib.hid hg2;have HX:Hid (∀ w5,Ow w5 Wa.heap.size (some ⟨g,0,none⟩) nm c1 (nrIn xs f o l)->Ow w5 Wa.heap.size (some ⟨g,0,none⟩) nm c1 (nrTo s rs m (u+1))):=Lib.hid (fun w5 h5=>by rw [HNx.out];exact h5);have Hlt:=Lib.hid hlt;have Hz:=Lib.hid (heap_alloc_new wr (.cells zeroTab 142));clear HNx hf hF64 hms hin hF hff hxs hl hoo hrd hv0 hmu hxin hbr hbW hr2 hg2 ho
   go_wp2_with (first
    |(refine wpList_load_mid rfl 142 _ rfl b (u*21) rfl (tcells F A' l C').toList _ hrg Tryz.underlying142 rfl tabi ?_)
    |(refine wpList_store_row rfl 142 _ _ rfl wr.heap.size (tcells F A' l C') rfl rfl 142 zeroTab Hz.out tabi rfl (tcells_one F A' l C') ?_)
    |(refine wpList_load_row rfl 142 _ rfl wr.heap.size rfl 142 (tcells F A' l C') (0,0) _ HHr2.out Tryz.underlying142 rfl tabi ?_)
    |(go_at_call 199;refine HNa.out.mono ?_;rintro e w5 ⟨rfl,ho5,hg5⟩))
   go_roundw
   case rel=>exact ⟨u+1,Hlt.out,by go_num,HX.out _ ho5,Hg2.out.trans hg5⟩
   case measure=>have:=Hlt.out;simp [intOf];omega
  ·obtain rfl:u=nt:=by omega
   go_wp2
   go_ret
   exact retSl_mk (ho.mono (by omega)) (HB1.out.grown hg HB1.out.size (fun k e=>by have:=Option.some.inj e;omega))
set_option maxHeartbeats 1000000 in
theorem round_any (s L Br:Nat) (At:Option Addr) (nt ct Bt:Nat) (gi:List Int) (rs:List RuleM) (A:Option Addr) (c nm B:Nat) (m:List Int) (t:Int) (w:World) (hTb:t=4->TbR w L Bt Br s rs At nt) (hBt:Bt<=w.heap.size) (hBr:Br<=Bt) (h:Rd w B A nm m) (hBm:B<=w.heap.size) (hT:Tz w) (hs:s∈[2,3,4]) (hv:pvB s gi rs=true) (hm:mvd m s=true) (t1:1<=t) (t4:t<=4):
 Calls Tryz.prog 169 #[.agg #[.int .i64 s,.slice At nt ct],.slice A nm c,.int .i64 t] w (RetSl w (nbL s gi rs m t)):=by
 have hb64:=b64_mvd hm;obtain ⟨⟨s2,s4⟩,_,hnm16,_⟩:=mvd_at hm;rw [h.1] at hnm16;obtain ⟨Wa,hWa⟩:∃ Wa,w.alloc (.cells #[.int .i64 s,.slice At nt ct] 94)=Wa:=⟨_,rfl⟩
 have hba:Below w.heap.size w Wa:=by rw [<- hWa];exact (Below.refl _ _).alloc (Nat.le_refl _) _
 have hra:Wa.heap[w.heap.size]? =some (.cells #[.int .i64 s,.slice At nt ct] 94):=by rw [<- hWa];exact heap_alloc_new w _
 have c0:=cell_of_row _ _ 0 _ _ (0,0) hra;have hBa:=Nat.le_trans hBm hba.size;have hRa:=h.below (hba.mono hBm);have hTa:=hT.below hT.lt hba
 have ht:t=1\/t=2\/t=3\/t=4:=by omega
 have Hi:=Lib.hid nar_info
 rcases ht with rfl|rfl|rfl|rfl
 ·have HL:=Lib.hid (show nbL s gi rs m 1=nsL m s nm by unfold nbL;rw [hv,hm,Bool.true_and,if_pos rfl,if_pos rfl,h.1]);have HC:=Lib.hid (implNarrowSingles A c nm B m s Wa hRa hb64 hTa hBa (by omega) (by omega));clear hTb hm hv h hb64
  go_enter Tryz.func169,Tryz.ntmps169
  go_wp2_with (go_at_call 186;refine HC.out.mono ?_;rintro e w1 ⟨A1,c1,rfl,ho1,hb1⟩)
  go_ret
  rw [HL.out];exact ⟨A1,c1,rfl,ho1.mono hba.size,step hba hb1⟩
 ·have HL:=Lib.hid (show nbL s gi rs m 2=nhL m s by unfold nbL;rw [hv,hm,Bool.true_and,if_pos rfl,if_neg (by omega),if_pos rfl]);have HC:=Lib.hid (implNarrowHidden A c nm B m s Wa hRa hb64 hBa (by omega) (by omega));clear hTb hm hv h hb64
  go_enter Tryz.func169,Tryz.ntmps169
  go_wp2_with (go_at_call 187;refine HC.out.mono ?_;rintro e w1 ⟨A1,c1,rfl,ho1,hb1⟩)
  go_ret
  rw [HL.out];exact ⟨A1,c1,rfl,ho1.mono hba.size,step hba hb1⟩
 ·have HL:=Lib.hid (show nbL s gi rs m 3=npL m s by unfold nbL;rw [hv,hm,Bool.true_and,if_pos rfl,if_neg (by omega),if_neg (by omega),if_pos rfl]);have HC:=Lib.hid (implNarrowPairs A c nm B m s Wa hRa hb64 hBa (by omega) (by omega));clear hTb hm hv h hb64
  go_enter Tryz.func169,Tryz.ntmps169
  go_wp2_with (go_at_call 188;refine HC.out.mono ?_;rintro e w1 ⟨A1,c1,rfl,ho1,hb1⟩)
  go_ret
  rw [HL.out];exact ⟨A1,c1,rfl,ho1.mono hba.size,step hba hb1⟩
 ·have hTb:=hTb rfl;have HL:=Lib.hid (show nbL s gi rs m 4=nrTo s rs m nt by unfold nbL nrL;rw [hv,hm,Bool.true_and,if_pos rfl,if_neg (by omega),if_neg (by omega),if_neg (by omega),if_pos rfl,if_pos rfl,hTb.1]);have hall:=(pv_gv hv).2.2;have HC:=Lib.hid (narrowedByRules_any s L Br At nt ct Bt rs A c nm B m Wa (hTb.below (hba.mono hBt) hBr) (Nat.le_trans hBt hba.size) hBr hRa hBa hs hm (fun i hi=>hall i (by rw [hTb.1];exact hi)) (by rw [<- hTb.1];exact (pv_gv hv).2.1));clear hTb hm hv h hb64 hall
  go_enter Tryz.func169,Tryz.ntmps169
  go_wp2_with (first
   |(refine wpList_load_row rfl 94 _ rfl w.heap.size rfl 94 #[.int .i64 s,.slice At nt ct] (0,0) _ hra Tryz.underlying94 rfl (Hi.out _ _) ?_)
   |(go_at_call 189;refine HC.out.mono ?_;rintro e w1 ⟨A1,c1,rfl,ho1,hb1⟩))
  go_ret
  rw [HL.out];exact ⟨A1,c1,rfl,ho1.mono hba.size,step hba hb1⟩
def NextPost (w:World) (nm:Nat):Option (List Int×Nat)->Ending->World->Prop
 |none,e,w'=>e=.returned (.tuple #[.slice none 0 0,.int .i64 0])/\Below w.heap.size w w'
 |some q,e,w'=>(∃ b c,e=.returned (.tuple #[.slice (some ⟨b,0,none⟩) nm c,.int .i64 (q.2:Nat)])/\w.heap.size<=b/\Ow w' w.heap.size (some ⟨b,0,none⟩) nm c q.1)/\Below w.heap.size w w'
set_option maxHeartbeats 2000000 in
theorem next_any (s L Br:Nat) (At:Option Addr) (nt ct Bt:Nat) (gi:List Int) (rs:List RuleM) (A:Option Addr) (c nm B:Nat) (m:List Int) (most:Nat) (w:World) (hTb:4<=most->TbR w L Bt Br s rs At nt) (hBt:Bt<=w.heap.size) (hBr:Br<=Bt) (h:Rd w B A nm m) (hBm:B<=w.heap.size) (hT:Tz w) (hs:s∈[2,3,4]) (hv:pvB s gi rs=true) (hm:mvd m s=true) (h4:most<=4):
 Calls Tryz.prog 132 #[.agg #[.int .i64 s,.slice At nt ct],.slice A nm c,.int .i64 most] w (NextPost w nm (ntF s gi rs m most 1)):=by
 obtain ⟨_,hsq,hnm16,_⟩:=mvd_at hm;rw [h.1] at hsq hnm16
 have hnm0:0<nm:=by
  simp at hs
  rcases hs with rfl|rfl|rfl<;>omega
 obtain ⟨Wa,hWa⟩:∃ Wa,w.alloc (.cells #[.int .i64 s,.slice At nt ct] 94)=Wa:=⟨_,rfl⟩
 have hba:Below w.heap.size w Wa:=by rw [<- hWa];exact (Below.refl _ _).alloc (Nat.le_refl _) _
 have hra:Wa.heap[w.heap.size]? =some (.cells #[.int .i64 s,.slice At nt ct] 94):=by rw [<- hWa];exact heap_alloc_new w _
 have hsa:Wa.heap.size=w.heap.size+1:=by rw [<- hWa];simp
 have Hi:=Lib.hid nar_info;have HRo:=Lib.hid (fun (t:Int) (w':World) (hb:Below w.heap.size w w') (t1:1<=t) (t4:t<=most)=>round_any s L Br At nt ct Bt gi rs A c nm B m t w' (fun e=>(hTb (by omega)).below (hb.mono hBt) hBr) (Nat.le_trans hBt hb.size) hBr (h.below (hb.mono hBm)) (Nat.le_trans hBm hb.size) (hT.below hT.lt hb) hs hv hm t1 (by omega));have HRd:=Lib.hid (fun (w':World) (hb:Below w.heap.size w w')=>h.below (hb.mono hBm));have HSb:=Lib.hid (fun (t:Int) (t1:1<=t) (t4:t<=most)=>(nb_sub (rs:=rs) (gi:=gi) hv hm t1 (show t<=4 by omega)).1.trans h.1)
 have HBa:=Lib.hid hba;have HRa:=Lib.hid hra;clear hTb h hT hv hm hba hra hsq
 go_enter Tryz.func132,Tryz.ntmps132
 go_wp2
 go_loopw [8] (fun i wr=>∃ t:Nat,1<=t/\t<=most+1/\i=.int .i64 t/\(∀ v,1<=v->v<t->nbL s gi rs m v=m)/\Below Wa.heap.size Wa wr) (fun i _=>most+1-(intOf i).toNat)
 case atStart=>exact ⟨1,by omega,by omega,rfl,fun v h1 h2=>absurd h2 (by omega),Below.refl _ _⟩
 case round=>
  obtain ⟨t,t1,t5,rfl,hno,hb⟩:=hrel;have hbw:=HBa.out.trans (hb.mono (by omega))
  by_cases hlt:t<=most
  ·have hltI:(t:Int)<=(most:Int):=by omega
   have hrr:=(hb.block w.heap.size (by omega)).trans HRa.out;have HC:=Lib.hid (HRo.out t wr hbw (by omega) hltI);have Hq:=HSb.out t (by omega) hltI;obtain ⟨q,hq⟩:∃ q,q=nbL s gi rs m t:=⟨_,rfl⟩;rw [<- hq] at HC Hq;have Hlq:=Lib.hid Hq;have Hbw:=Lib.hid hbw;have hb':=hb;clear Hq
   by_cases e:q=m
   ·have hsm:same q m=true:=(by rw [e];exact same_refl m)
    have Hno:=Lib.hid (show ∀ v,1<=v->v<t+1->nbL s gi rs m v=m from fun v h1 h2=>by
     by_cases ev:v=t
     ·subst ev;rw [<- hq];exact e
     ·exact hno v h1 (by omega))
    clear e hq hno hbw
    go_wp2_with (first
     |(refine wpList_load_row rfl 94 _ rfl w.heap.size rfl 94 #[.int .i64 s,.slice At nt ct] (0,0) _ hrr Tryz.underlying94 rfl (Hi.out _ _) ?_)
     |(go_at_call 169;refine HC.out.mono ?_;rintro e w1 ⟨A1,c1,rfl,ho1,hb1⟩;have hb01:=step Hbw.out hb1;rw [Hlq.out] at ho1)
     |(rw [Hlq.out];go_at_call 170;refine (equal_any _ _ _ _ _ _ _ _ _ _ _ ho1.rd (HRd.out _ hb01) (by omega)).mono ?_;rintro e w2 ⟨rfl,hb2⟩;rw [hsm]))
    go_roundw
    case rel=>exact ⟨t+1,by omega,by omega,by go_num,Hno.out,(hb'.trans (hb1.mono hb'.size)).trans (hb2.mono (Nat.le_trans hb'.size hb1.size))⟩
    case measure=>simp [intOf];omega
   ·have hsm:same q m=false:=(by simp [same,e]);have HN:=Lib.hid (show ntF s gi rs m most 1=some (q,t) from ntF_at hno (by omega) (by omega) hq e);clear e hq hno hbw
    go_wp2_with (first
     |(refine wpList_load_row rfl 94 _ rfl w.heap.size rfl 94 #[.int .i64 s,.slice At nt ct] (0,0) _ hrr Tryz.underlying94 rfl (Hi.out _ _) ?_)
     |(go_at_call 169;refine HC.out.mono ?_;rintro e w1 ⟨A1,c1,rfl,ho1,hb1⟩;have hb01:=step Hbw.out hb1;rw [Hlq.out] at ho1)
     |(rw [Hlq.out];go_at_call 170;refine (equal_any _ _ _ _ _ _ _ _ _ _ _ ho1.rd (HRd.out _ hb01) (by omega)).mono ?_;rintro e w2 ⟨rfl,hb2⟩;rw [hsm]))
    go_ret2
    rw [HN.out];obtain ⟨b,rfl,hbl,hbs⟩:=ho1.form (by omega);have hsz:=Hbw.out.size;exact ⟨⟨b,c1,rfl,by omega,(ho1.below hb2).mono hsz⟩,step hb01 hb2⟩
  ·obtain rfl:t=most+1:=by omega
   have HN:=Lib.hid (show ntF s gi rs m most 1=none from ntF_of (fun v h1 h2=>hno v h1 (by omega)));have hltI:¬ ((most+1:Nat):Int)<=(most:Int):=(by omega)
   go_wp2
   go_ret2
   rw [HN.out];exact ⟨rfl,hbw⟩
def nvB (s:Int) (gi:List Int) (rs:List RuleM) (m:List Int) (t:Int):Bool:=inr t 1 4&&pvB s gi rs&&mvd m s
theorem techniqueKnown_any (t:Int) (w:World):Calls Tryz.prog 94 #[.int .i64 t] w fun e w'=>e=.returned (.bool (inr t 1 4))/\w=w':=by
 by_cases h1:(1:Int)<=t
 ·by_cases h4:t<=(4:Int)
  ·have hr:=Lib.hid (show inr t 1 4=true by unfold inr;simp;omega)
   go_enter Tryz.func94,Tryz.ntmps94
   go_wp2
   go_ret
   exact ⟨by rw [hr.out];try simp,rfl⟩
  ·have hr:=Lib.hid (show inr t 1 4=false by unfold inr;simp;omega)
   go_enter Tryz.func94,Tryz.ntmps94
   go_wp2
   go_ret
   exact ⟨by rw [hr.out];try simp,rfl⟩
 ·have hr:=Lib.hid (show inr t 1 4=false by unfold inr;simp;omega)
  go_enter Tryz.func94,Tryz.ntmps94
  go_wp2
  go_ret
  exact ⟨by rw [hr.out];try simp,rfl⟩
set_option maxHeartbeats 1000000 in
theorem narrowingValid_any (s:Int) (Ag:Option Addr) (ng cg Bg:Nat) (gi:List Int) (Ar:Option Addr) (nr cr Br:Nat) (rs:List RuleM) (Am:Option Addr) (nm cm Bm:Nat) (m:List Int) (t:Int) (w:World) (hp:PGc w s Ag ng cg Bg gi Ar nr cr Br rs) (hm:Rd w Bm Am nm m) (hBm:Bm<=w.heap.size) (hm64:B64 m) (hmm:nm<=1099511627776) (hsb: -9223372036854775808<=s/\s<=9223372036854775807):
 Calls Tryz.prog 79 #[.agg #[.int .i64 s,.slice Ag ng cg,.slice Ar nr cr],.slice Am nm cm,.int .i64 t] w fun e w'=>e=.returned (.bool (nvB s gi rs m t))/\Below w.heap.size w w':=by
 have hx0:=pbox_new w s Ag ng cg Ar nr cr 26;have hb0:Below w.heap.size w (w.alloc (.cells #[.int .i64 s,.slice Ag ng cg,.slice Ar nr cr] 26)):=(Below.refl _ _).alloc (Nat.le_refl _) _
 have hs0:w.heap.size<(w.alloc (.cells #[.int .i64 s,.slice Ag ng cg,.slice Ar nr cr] 26)).heap.size:=by simp
 obtain ⟨z0,z1,z2⟩:=id hx0;have HV:=Lib.hid (fun w' (hb:Below w.heap.size w w')=>valid_any s Ag ng cg Bg gi Ar nr cr Br rs w' (hp.below hb));have HM:=Lib.hid (fun w' (hb:Below w.heap.size w w')=>implMasksValid Am cm nm Bm m s w' (hm.below (hb.mono hBm)) hm64 (Nat.le_trans hBm hb.size) hmm hsb);cases hr:inr t 1 4
 ·have HL:=Lib.hid (show nvB s gi rs m t=false by simp [nvB,hr])
  go_enter Tryz.func79,Tryz.ntmps79
  go_wp2_with (go_at_call 94;refine (techniqueKnown_any t _).mono ?_;rintro e wq ⟨rfl,rfl⟩;rw [hr])
  go_ret
  exact ⟨by rw [HL.out];try simp,hb0⟩
 ·cases hv:pvB s gi rs
  ·have HL:=Lib.hid (show nvB s gi rs m t=false by simp [nvB,hv])
   go_enter Tryz.func79,Tryz.ntmps79
   go_wp2_with (first
    |(go_at_call 94;refine (techniqueKnown_any t _).mono ?_;rintro e wq ⟨rfl,rfl⟩;rw [hr])
    |(go_at_call 60;refine (HV.out _ hb0).mono ?_;rintro e w1 ⟨rfl,hb1⟩;rw [hv];have h01:=step hb0 hb1))
   go_ret
   exact ⟨by rw [HL.out];try simp,h01⟩
  ·have HL:=Lib.hid (show nvB s gi rs m t=mvd m s by simp [nvB,hv,hr])
   go_enter Tryz.func79,Tryz.ntmps79
   go_wp2_with (first
    |(go_at_call 94;refine (techniqueKnown_any t _).mono ?_;rintro e wq ⟨rfl,rfl⟩;rw [hr])
    |(go_at_call 60;refine (HV.out _ hb0).mono ?_;rintro e w1 ⟨rfl,hb1⟩;rw [hv];have h01:=step hb0 hb1;obtain ⟨c0,c1,c2⟩:=hx0.below hs0 hb1)
    |(go_at_call 83;refine (HM.out _ h01).mono ?_;rintro e w2 ⟨rfl,hb2⟩;have h02:=step h01 hb2))
   go_ret
   exact ⟨by rw [HL.out];try simp,h02⟩
theorem nv_ok {s:Int} {gi:List Int} {rs:List RuleM} {m:List Int} {t:Int} (h:nvB s gi rs m t=true):(1<=t/\t<=4)/\pvB s gi rs=true/\mvd m s=true/\∃ S:Nat,s=S/\S∈[2,3,4]:=by
 unfold nvB at h;simp only [Bool.and_eq_true] at h;obtain ⟨⟨h1,h2⟩,h3⟩:=h;obtain ⟨⟨s2,s4⟩,_⟩:=mvd_at h3;obtain ⟨S,rfl⟩:=Int.eq_ofNat_of_zero_le (show 0<=s by omega);refine ⟨inr_t h1,h2,h3,S,rfl,?_⟩
 have:S=2\/S=3\/S=4:=by omega
 simpa using this
end Go.Proofs.YtkeoflnmbcdmfaaGreatDoor
namespace Go.Proofs.YtkeoflnmbcdmfaaGreatDoor
theorem fp_parts {s:Int} {gi g:List Int} {rs:List RuleM}:fpB s gi rs g=true↔pvB s gi rs=true/\gv g s=true/\(∀ i,i<g.length->giveOk gi g i=true)/\(∀ i,i<rs.length->rpR s g (rat rs i)=true)/\clash g s=false:=by
 simp only [fpB,fitB,Bool.and_eq_true,List.all_eq_true,List.mem_range,Bool.not_eq_true']
 constructor
 ·rintro ⟨⟨a,b⟩,⟨c,d⟩,e⟩;exact ⟨a,b,c,d,e⟩
 ·rintro ⟨a,b,c,d,e⟩;exact ⟨⟨a,b⟩,⟨c,d⟩,e⟩
theorem ps_is {s:Int} {gi g:List Int} {rs:List RuleM} (hp:pvB s gi rs=true) (hg:gv g s=true):psB s gi rs g=(sqSolved g s&&((List.range rs.length).all fun i=>rhB (rat rs i).k (rat rs i).xs (rat rs i).v g s)&&((List.range g.length).all fun i=>nth gi i==0||nth gi i==nth g i)):=by
 have hl:=gv_len hg
 have hgf:gf g s=(cnz g g.length:Int):=by simp [gf,hg]
 have hli:=gv_len (pv_gv hp).1;unfold psB sqSolved sqFits;rw [hgf,<-hl]
 by_cases hf:cnz g g.length=g.length
 ·have hn:=cnz_all hf
  have e1:((cnz g g.length:Int)==(g.length:Int))=true:=by rw [hf];simp
  rw [e1,Bool.and_true,Bool.and_true,Bool.eq_iff_iff,fp_parts];simp only [Bool.and_eq_true,List.all_eq_true,List.mem_range,Bool.not_eq_true',Bool.or_eq_true,beq_iff_eq,hp,hg,true_and]
  have q1:∀ i,i<rs.length->(rhB (rat rs i).k (rat rs i).xs (rat rs i).v g s=true↔rpR s g (rat rs i)=true):=fun i hi=>by
   rw [rh_full ((pv_gv hp).2.2 i hi) hg hf];exact Iff.rfl
  have q2:∀ i,i<g.length->(giveOk gi g i=true↔(nth gi i=0\/nth gi i=nth g i)):=fun i hi=>by
   have h1:=hn i hi;have h2:=(gv_nth hg hi).1;have h3:=(gv_nth (pv_gv hp).1 (show i<gi.length by omega)).1;simp only [giveOk,Bool.not_eq_true',Bool.and_eq_false_iff,decide_eq_false_iff_not,bne_eq_false_iff_eq];omega
  constructor
  ·rintro ⟨a,b,c⟩;exact ⟨⟨c,fun i hi=>(q1 i hi).2 (b i hi)⟩,fun i hi=>(q2 i hi).1 (a i hi)⟩
  ·rintro ⟨⟨c,b⟩,a⟩;exact ⟨fun i hi=>(q2 i hi).2 (a i hi),fun i hi=>(q1 i hi).1 (b i hi),c⟩
 ·have e1:((cnz g g.length:Int)==(g.length:Int))=false:=by simp only [beq_eq_false_iff_ne];omega
  rw [e1]
  simp
end Go.Proofs.YtkeoflnmbcdmfaaGreatDoor
namespace Go.Proofs.YtkeoflnmbcdmfaaGreatDoor
open Go.ChangeShapes Go.WideShapes Go.ChangeAt Go.RowKit
def anQ (x y:Nat):Bool:=(bits .andNot .i64 (x:Int) (y:Int) != 0)||(List.range 5).all fun t=> !x.testBit t||y.testBit t
theorem anQ_key:∀ x,x<32->∀ y,y<32->anQ x y=true:=by decide +kernel
theorem an_bits {x y:Nat} (hx:x<32) (hy:y<32) (h:bits .andNot .i64 (x:Int) (y:Int)=0) (t:Nat) (ht:x.testBit t=true):y.testBit t=true:=by
 have t5:t<5:=by
  rcases Nat.lt_or_ge t 5 with h|h
  ·exact h
  ·rw [Nat.testBit_lt_two_pow (Nat.lt_of_lt_of_le hx (Nat.pow_le_pow_right (n:=2) (by omega) h))] at ht;cases ht
 have key:=anQ_key x hx y hy;unfold anQ at key;rw [h] at key;simp only [bne_self_eq_false,Bool.false_or,List.all_eq_true,List.mem_range,Bool.or_eq_true,Bool.not_eq_true'] at key
 rcases key t t5 with h|h
 ·rw [ht] at h;cases h
 ·exact h
theorem Wi.trans {a b c:List Int} {s:Int} (ha:mvd a s=true) (hb:mvd b s=true) (hc:mvd c s=true) (hl:b.length=c.length) (h:Wi a b) (h':Wi b c):Wi a c:=fun k hk=>by
 obtain ⟨a0,a1,_⟩:=mvd_nth ha k;obtain ⟨b0,b1,_⟩:=mvd_nth hb k;obtain ⟨c0,c1,_⟩:=mvd_nth hc k;have e1:=h k (by omega);have e2:=h' k hk;obtain ⟨x,hx⟩:=Int.eq_ofNat_of_zero_le a0;obtain ⟨y,hy⟩:=Int.eq_ofNat_of_zero_le b0;obtain ⟨z,hz⟩:=Int.eq_ofNat_of_zero_le c0;rw [hx,hy] at e1;rw [hy,hz] at e2;rw [hx,hz];exact an_zero (by omega) (by omega) (fun t ht=>an_bits (by omega) (by omega) e2 t (an_bits (by omega) (by omega) e1 t ht))
theorem nrIn_wi {k v s:Int} {xs o:List Int} (hv:rv k xs v s=true) (hm:mvd o s=true) (j:Nat) (hj:j<=xs.length):Wi (nrIn xs (rmL k xs v o s) o j) o:=by
 induction j with
 |zero=>exact Wi.refl hm
 |succ j ih=>
  intro i hi;have hlen:=(nrIn_sub hv hm j (by omega)).1;have ih:=ih (by omega) i hi;simp only [nrIn]
  by_cases e:(nth xs j).toNat=i
  ·subst e;rw [nth_set (by rw [hlen];exact hi),if_pos rfl];exact rm_part hv hm (by omega)
  ·rw [nth_set_ne e];exact ih
theorem nrTo_wi {s:Int} {rs:List RuleM} {m:List Int} (hm:mvd m s=true) (hr:∀ i,i<rs.length->rvR s (rat rs i)=true) (u:Nat) (hu:u<=rs.length):Wi (nrTo s rs m u) m:=by
 induction u with
 |zero=>exact Wi.refl hm
 |succ u ih=>
  have hs:=nrTo_sub (m:=m) hm hr u (by omega);have ho:=hs.mvd_ hm;have h1:=nrIn_sub (hr u (by omega)) ho _ (Nat.le_refl _);exact Wi.trans (h1.mvd_ ho) ho hm hs.1 (nrIn_wi (hr u (by omega)) ho _ (Nat.le_refl _)) (ih (by omega))
theorem nr_wi {s:Int} {gi:List Int} {rs:List RuleM} {m:List Int} (hv:pvB s gi rs=true) (hm:mvd m s=true):Wi (nrL s gi rs m) m:=by
 unfold nrL;rw [hv,hm,Bool.true_and,if_pos rfl];exact nrTo_wi hm (pv_gv hv).2.2 _ (Nat.le_refl _)
theorem way_in {k v s:Int} {xs o g:List Int} (hv:rv k xs v s=true) (hh:rhB k xs v g s=true) (hg:gv g s=true) (ho:∀ i,i<g.length->inMask o g i=true):pks g xs xs.length∈waysN k v (pks o xs xs.length) xs.length:=by
 obtain ⟨⟨s2,s4⟩,_,_,hx⟩:=rv_facts rfl hv;simp only [rhB,Bool.and_eq_true,Bool.not_eq_true'] at hh;have hnz:=mem_ne hh.1.2;have hlg:=gv_len hg;refine List.mem_filter.2 ⟨allW_mem _ _ _ (by simp [pks_length]) (fun i hi=>absurd hi (by simp)) (fun i _ hi=>?_),hh.2⟩
 have hi':i<xs.length:=by simpa using hi
 have h0:=hnz i hi';rw [pks_nth hi'] at h0 ⊢;rw [pks_nth hi'];obtain ⟨x0,x1⟩:=hx i hi'
 have hp:(nth xs i).toNat<g.length:=by omega
 obtain ⟨q0,q1⟩:=gv_nth hg hp;have hb:=ho _ hp;unfold inMask at hb;exact bits_iff.2 ⟨(nth g (nth xs i).toNat).toNat,by omega,by omega,by omega,hb⟩
theorem nrIn_in {k v s:Int} {xs o g:List Int} (hv:rv k xs v s=true) (hm:mvd o s=true) (hh:rhB k xs v g s=true) (hg:gv g s=true) (ho:∀ i,i<g.length->inMask o g i=true) (j:Nat) (hj:j<=xs.length):∀ i,i<g.length->inMask (nrIn xs (rmL k xs v o s) o j) g i=true:=by
 have hw:=way_in hv hh hg ho
 induction j with
 |zero=>exact ho
 |succ j ih=>
  intro i hi;have ih:=ih (by omega) i hi;have hlen:=(nrIn_sub hv hm j (by omega)).1;have hlo:=(mvd_at hm).2.1;have hlg:=gv_len hg;unfold inMask at ih ⊢;simp only [nrIn]
  by_cases e:(nth xs j).toNat=i
  ·subst e;rw [nth_set (by omega),if_pos rfl,rm_nth hv hm,Int.toNat_natCast,rmF_bit (by omega)];exact ⟨_,hw,by rw [pks_nth (by omega)]⟩
  ·rw [nth_set_ne e];exact ih
theorem nrTo_in {s:Int} {rs:List RuleM} {m g:List Int} (hm:mvd m s=true) (hr:∀ i,i<rs.length->rvR s (rat rs i)=true) (hh:∀ i,i<rs.length->rhB (rat rs i).k (rat rs i).xs (rat rs i).v g s=true) (hg:gv g s=true) (ho:∀ i,i<g.length->inMask m g i=true) (u:Nat) (hu:u<=rs.length):∀ i,i<g.length->inMask (nrTo s rs m u) g i=true:=by
 induction u with
 |zero=>exact ho
 |succ u ih=>
  have hs:=nrTo_sub (m:=m) hm hr u (by omega);exact nrIn_in (hr u (by omega)) (hs.mvd_ hm) (hh u (by omega)) hg (ih (by omega)) _ (Nat.le_refl _)
theorem ps_rules {s:Int} {gi g:List Int} {rs:List RuleM} (h:psB s gi rs g=true):pvB s gi rs=true/\gv g s=true/\sqSolved g s=true/\∀ i,i<rs.length->rhB (rat rs i).k (rat rs i).xs (rat rs i).v g s=true:=by
 have hf:fpB s gi rs g=true:=by unfold psB at h;rw [Bool.and_eq_true] at h;exact h.1
 obtain ⟨h1,h2,_⟩:=fp_parts.1 hf;rw [ps_is h1 h2] at h;simp only [Bool.and_eq_true,List.all_eq_true,List.mem_range] at h;exact ⟨h1,h2,h.1.1,h.1.2⟩
theorem nr_keeps {s:Int} {gi m g:List Int} {rs:List RuleM} (hm:mvd m s=true) (hg:psB s gi rs g=true) (h:mhB m s g=true):mhB (nrL s gi rs m) s g=true:=by
 obtain ⟨hv,hgv,_,hh⟩:=ps_rules hg;simp only [mhB,Bool.and_eq_true,List.all_eq_true,List.mem_range] at h ⊢;refine ⟨⟨(nr_sub hv hm).mvd_ hm,hgv⟩,?_⟩;unfold nrL;rw [hv,hm,Bool.true_and,if_pos rfl];exact nrTo_in hm (pv_gv hv).2.2 hh hgv h.2 _ (Nat.le_refl _)
theorem nsIn_wi {m o:List Int} {s:Int} {S i:Nat} (hm:mvd m s=true) (hs:Sub o m) (h:Wi o m) (k:Nat):Wi (nsIn m S i o k) m:=by
 induction k with
 |zero=>exact h
 |succ k ih=>
  simp only [nsIn]
  split
  ·exact ih.anput (nsIn_sub hm hs k) hm ⟨(mvd_nth hm i).1,(mvd_nth hm i).2.1⟩ k
  ·exact ih
theorem nsTo_wi {m:List Int} {s:Int} {S n:Nat} (hm:mvd m s=true) (i:Nat):Wi (nsTo m S n i) m:=by
 induction i with
 |zero=>exact Wi.refl hm
 |succ i ih=>
  simp only [nsTo]
  split
  ·exact nsIn_wi hm (nsTo_sub hm i) ih n
  ·exact ih
theorem ns_wi {m:List Int} {s:Int} (hm:mvd m s=true) (n:Nat):Wi (nsL m s n) m:=by
 unfold nsL;rw [if_pos hm];exact nsTo_wi hm n
theorem pow_bit (v t:Nat) (h:((2:Nat)^v).testBit t=true):v=t:=by
 rw [Nat.testBit_two_pow,decide_eq_true_eq] at h;exact h
theorem nsIn_in {m g o:List Int} {s i:Nat} (hs:s∈[2,3,4]) (hm:mvd m s=true) (hsb:Sub o m) (hl:g.length=s*s) (hg:sqSolved g s=true) (hi:i<s*s) (hone:(maskVals (nth m i)).length=1) (hin:inMask m g i=true) (ho:∀ k,k<s*s->inMask o g k=true) (K:Nat) (hK:K<=s*s):∀ k,k<s*s->inMask (nsIn m s i o K) g k=true:=by
 obtain ⟨hgv,hcl,hnz⟩:=(solved_iff hl).1 hg
 have hg4:∀ k,k<s*s->0<=nth g k/\(nth g k).toNat<5:=fun k hk=>by
  obtain ⟨q0,q1⟩:=gv_nth hgv (k:=k) (by omega);have:=gv_size hgv;omega
 obtain ⟨v,v1,v4,hx⟩:∃ v:Nat,1<=v/\v<=4/\nth m i=2^v:=by
  rcases one_at hm i with ⟨_,v,a,b,_,d⟩|⟨h,_⟩
  ·exact ⟨v,a,b,d⟩
  ·exact absurd hone h
 have hxN:nth m i=((2^v:Nat):Int):=by rw [hx];simp
 have hlt:2^v<32:=by
  have:(2:Nat)^v<2^5:=Nat.pow_lt_pow_right (by omega) (by omega);omega
 have hgi:(nth g i).toNat=v:=by
  unfold inMask at hin;rw [hxN,Int.toNat_natCast] at hin;exact (pow_bit _ _ hin).symm
 intro k hk;have hln:=len_of hs hm
 have hlo:o.length=s*s:=by rw [hsb.1,hln]
 have h0:=ho k hk;unfold inMask at h0 ⊢;rw [nsIn_nth K (by omega)]
 by_cases hc:k<K/\seesB s k i=true
 ·rw [if_pos hc];obtain ⟨⟨x0,x1,_⟩,_⟩:=hsb.at_ hm (k:=k) (by rw [hln];exact hk);obtain ⟨x,hxx⟩:=Int.eq_ofNat_of_zero_le x0;rw [hxx] at h0 ⊢;rw [Int.toNat_natCast] at h0;rw [hxN,an_bit x (by omega) (2^v) hlt _ (hg4 k hk).2,h0,Bool.true_and,Bool.not_eq_true'];cases e:(2^v).testBit (nth g k).toNat
  ·rfl
  ·have e1:=pow_bit _ _ e;have hadj:adj s k i=true:=(by simpa [seesB,adj] using hc.2);have:clash g s=true:=(clash_iff hs).2 ⟨k,i,hk,hi,hadj,by have:=hg4 k hk;have:=hg4 i hi;omega,by have:=hnz i hi;have:=hg4 i hi;omega⟩;rw [hcl] at this;cases this
 ·rw [if_neg hc];exact h0
theorem nsTo_in {m g:List Int} {s:Nat} (hs:s∈[2,3,4]) (hm:mvd m s=true) (hl:g.length=s*s) (hg:sqSolved g s=true) (hin:∀ k,k<s*s->inMask m g k=true) (i:Nat) (hi:i<=s*s):∀ k,k<s*s->inMask (nsTo m s (s*s) i) g k=true:=by
 induction i with
 |zero=>exact hin
 |succ i ih=>
  simp only [nsTo]
  split
  ·next h1=>exact nsIn_in hs hm (nsTo_sub hm i) hl hg (by omega) h1 (hin i (by omega)) (ih (by omega)) _ (Nat.le_refl _)
  ·exact ih (by omega)
theorem ns_keeps {m g:List Int} {s:Int} {n:Nat} (hn:m.length=n) (hm:mvd m s=true) (hg:sqSolved g s=true) (h:mhB m s g=true):mhB (nsL m s n) s g=true:=by
 obtain ⟨⟨s2,s4⟩,_,_,_⟩:=mvd_at hm;obtain ⟨t,rfl⟩:∃ t:Nat,s=t:=⟨s.toNat,by omega⟩
 have hs:t∈[2,3,4]:=by simp;omega
 have hnt:n=t*t:=by rw [<- hn];exact len_of hs hm
 simp only [mhB,Bool.and_eq_true,List.all_eq_true,List.mem_range] at h ⊢;obtain ⟨⟨_,hgv⟩,hin⟩:=h;have hlg:=gv_len hgv
 have hln:g.length=t*t:=by
  simp at hs
  rcases hs with rfl|rfl|rfl<;>omega
 refine ⟨⟨(ns_sub hm n).mvd_ hm,hgv⟩,?_⟩;rw [hln] at hin ⊢;have:=nsTo_in hs hm hln hg hin (t*t) (Nat.le_refl _);unfold nsL;rw [if_pos hm,Int.toNat_natCast,hnt];exact this
theorem mv_bits' {m:List Int} {s:Int} (hm:mvd m s=true) (k:Nat):∃ M:Nat,nth m k=(M:Int)/\M<32/\maskVals (nth m k)=bitsTo M 4:=by
 obtain ⟨x0,x1,x2⟩:=mvd_nth hm k;obtain ⟨M,hM⟩:=Int.eq_ofNat_of_zero_le x0
 have hm2:M%2=0:=by rw [hM,Int.tmod_eq_emod_of_nonneg (by omega)] at x2;omega
 exact ⟨M,hM,by omega,by rw [hM,mv_bits (by omega) hm2]⟩
theorem nb_wi {s t:Int} {gi m:List Int} {rs:List RuleM} (hv:pvB s gi rs=true) (hm:mvd m s=true) (h1:1<=t) (h4:t<=4):Wi (nbL s gi rs m t) m:=by
 unfold nbL;rw [hv,hm,Bool.true_and,if_pos rfl]
 have:t=1\/t=2\/t=3\/t=4:=by omega
 rcases this with rfl|rfl|rfl|rfl
 ·exact ns_wi hm _
 ·exact nh_wi hm
 ·exact np_wi hm
 ·exact nr_wi hv hm
theorem nb_keeps {s t:Int} {gi m g:List Int} {rs:List RuleM} (hm:mvd m s=true) (hg:psB s gi rs g=true) (h1:1<=t) (h4:t<=4) (h:mhB m s g=true):mhB (nbL s gi rs m t) s g=true:=by
 obtain ⟨hv,_,hsq,_⟩:=ps_rules hg;unfold nbL;rw [hv,hm,Bool.true_and,if_pos rfl]
 have:t=1\/t=2\/t=3\/t=4:=by omega
 rcases this with rfl|rfl|rfl|rfl
 ·exact ns_keeps rfl hm hsq h
 ·exact nh_keeps hm hsq h
 ·exact np_keeps hm hsq h
 ·exact nr_keeps hm hg h
theorem na_keeps {s:Int} {gi m g:List Int} {rs:List RuleM} {most r:Nat} (h4:most<=4) (hm:mvd m s=true) (hg:psB s gi rs g=true) (h:mhB m s g=true):mhB (naE s gi rs most m r).1 s g=true:=
 (naE_ind (fun o=>mhB o s g=true) (ps_rules hg).1 h4 (fun _ _ ho t1 t2 h=>nb_keeps ho hg (by omega) (by omega) h) hm h).1
theorem na_wi {s:Int} {gi m:List Int} {rs:List RuleM} {most r:Nat} (hv:pvB s gi rs=true) (h4:most<=4) (hm:mvd m s=true):Wi (naE s gi rs most m r).1 m/\mvd (naE s gi rs most m r).1 s=true/\(naE s gi rs most m r).1.length=m.length:=by
 have:=naE_ind (r:=r) (fun o=>o.length=m.length/\Wi o m) hv h4 (fun o t ho t1 t2 h=>by
  have hs:=nb_sub (t:=(t:Int)) hv ho (by omega) (by omega)
  exact ⟨hs.1.trans h.1,Wi.trans (hs.mvd_ ho) ho hm h.1 (nb_wi hv ho (by omega) (by omega)) h.2⟩) hm ⟨rfl,Wi.refl hm⟩
 exact ⟨this.1.2,this.2,this.1.1⟩
def sVal (G OB RB n:Nat):Value:=.agg #[.slice (some ⟨G,0,none⟩) n n,.slice (some ⟨OB,0,none⟩) n n,.slice (some ⟨RB,0,none⟩) n n]
def holdsR (ys:List Int) (r:RuleM):Bool:=holdsB r.k r.v (pks ys r.xs r.xs.length)
def holdsQ (ys:List Int) (q:List RuleM):Bool:=(List.range q.length).all fun i=>holdsR ys (rat q i)
def SBox (w:World) (g G OB RB n:Nat):Prop:=w.cell? ⟨g,0,none⟩=some (.slice (some ⟨G,0,none⟩) n n)/\w.cell? ⟨g,1,none⟩=some (.slice (some ⟨OB,0,none⟩) n n)/\w.cell? ⟨g,2,none⟩=some (.slice (some ⟨RB,0,none⟩) n n)
theorem SBox.below {w w':World} {g B G OB RB n:Nat} (h:SBox w g G OB RB n) (hg:g<B) (hb:Below B w w'):SBox w' g G OB RB n:=
 ⟨(hb.cell (p:=⟨g,0,none⟩) hg).trans h.1,(hb.cell (p:=⟨g,1,none⟩) hg).trans h.2.1,(hb.cell (p:=⟨g,2,none⟩) hg).trans h.2.2⟩
theorem SBox.lt {w:World} {g G OB RB n:Nat} (h:SBox w g G OB RB n):g<w.heap.size:=cell_lt h.1
theorem sbox_new (w:World) (G OB RB n:Nat) (t:TypeId):SBox (w.alloc (.cells #[.slice (some ⟨G,0,none⟩) n n,.slice (some ⟨OB,0,none⟩) n n,.slice (some ⟨RB,0,none⟩) n n] t)) w.heap.size G OB RB n:=
 ⟨cell_of_row _ _ 0 _ _ (0,0) (heap_alloc_new w _),cell_of_row _ _ 1 _ _ (0,0) (heap_alloc_new w _),cell_of_row _ _ 2 _ _ (0,0) (heap_alloc_new w _)⟩
theorem nHolds1 (k v:Int) (A:Option Addr) (n c:Nat) (w:World):(nilAhead 323 183 (.agg #[.int .i64 k,.slice A n c,.int .i64 v]) "loop.example/gridpuzzles/impl.holdsWith").run Tryz.prog w=.ok (some false) w:=by kernel_rfl
theorem nHolds2 (k v:Int) (A:Option Addr) (n c:Nat) (w:World):(nilAhead 323 184 (.agg #[.int .i64 k,.slice A n c,.int .i64 v]) "loop.example/gridpuzzles/impl.holdsWith").run Tryz.prog w=.ok (some false) w:=by kernel_rfl
theorem nHolds3 (k v:Int) (A:Option Addr) (n c:Nat) (w:World):(nilAhead 323 185 (.agg #[.int .i64 k,.slice A n c,.int .i64 v]) "loop.example/gridpuzzles/impl.holdsWith").run Tryz.prog w=.ok (some false) w:=by kernel_rfl
theorem nHolds4 (k v:Int) (A:Option Addr) (n c:Nat) (w:World):(nilAhead 323 186 (.agg #[.int .i64 k,.slice A n c,.int .i64 v]) "loop.example/gridpuzzles/impl.holdsWith").run Tryz.prog w=.ok (some false) w:=by kernel_rfl
theorem nHolds5 (k v:Int) (A:Option Addr) (n c:Nat) (w:World):(nilAhead 323 187 (.agg #[.int .i64 k,.slice A n c,.int .i64 v]) "loop.example/gridpuzzles/impl.holdsWith").run Tryz.prog w=.ok (some false) w:=by kernel_rfl
set_option maxHeartbeats 2000000 in
theorem rulesHold_any (W0:World) (B0 G OB RB n L p:Nat) (s:Int) (A:Option Addr) (cap:Nat) (q:List RuleM) (ys:List Int) (X:World)
 (hrow:X.cell? ⟨RB,p,none⟩=some (.slice A q.length cap)) (hq:RdW W0 B0 X L A q) (h0:Below B0 W0 X) (hB0:B0<=W0.heap.size) (hp:p<n) (hg:Rd X X.heap.size (some ⟨G,0,none⟩) n ys) (hql:q.length<=1099511627776)
 (hv:∀ i,i<q.length->rvR s (rat q i)=true) (hin:∀ i,i<q.length->∀ j,j<(rat q i).xs.length->0<=nth (rat q i).xs j/\nth (rat q i).xs j<n) (hsm:∀ i,i<q.length->small4 (pks ys (rat q i).xs (rat q i).xs.length) (rat q i).xs.length):
 Calls Tryz.prog 167 #[sVal G OB RB n,.int .i64 p] X fun e Y=>e=.returned (.bool (holdsQ ys q))/\Below X.heap.size X Y:=by
 unfold sVal;have hx0:=sbox_new X G OB RB n 133;have hb0:Below X.heap.size X (X.alloc (.cells #[.slice (some ⟨G,0,none⟩) n n,.slice (some ⟨OB,0,none⟩) n n,.slice (some ⟨RB,0,none⟩) n n] 133)):=(Below.refl _ _).alloc (Nat.le_refl _) _
 have hs0:X.heap.size+1<=(X.alloc (.cells #[.slice (some ⟨G,0,none⟩) n n,.slice (some ⟨OB,0,none⟩) n n,.slice (some ⟨RB,0,none⟩) n n] 133)).heap.size:=by simp
 obtain ⟨z0,z1,z2⟩:=id hx0;have hrw:=cell_lt hrow;have hrow0:=(hb0.cell (p:=⟨RB,p,none⟩) hrw).trans hrow
 have hpI:(p:Int)<(n:Int):=by omega
 have HQ:=Lib.hid hq;have HG:=Lib.hid hg;have H0:=Lib.hid h0;have HV:=Lib.hid hv;have HIN:=Lib.hid hin;have HSM:=Lib.hid hsm;obtain ⟨l,hl⟩:∃ l,l=q.length:=⟨_,rfl⟩;rw [<- hl] at hrow0 hql;have Hl:=Lib.hid hl;clear hl hrow hq hg h0 hv hin hsm
 go_enter Tryz.func167,Tryz.ntmps167
 go_wp2
 go_loopw [13] (fun i wr=>∃ u:Nat,u<=l/\i=.int .i64 u/\Hid (allR (holdsR ys) q u)/\SBox wr X.heap.size G OB RB n/\Below X.heap.size X wr/\X.heap.size+1<=wr.heap.size) (fun i _=>l-(intOf i).toNat)
 case atStart=>exact ⟨0,Nat.zero_le _,rfl,Lib.hid (fun j hj=>absurd hj (by omega)),hx0,hb0,hs0⟩
 case round=>
  obtain ⟨u,hu,rfl,hall,hx,hb,hsw⟩:=hrel;obtain ⟨c0,c1,c2⟩:=id hx
  by_cases hlt:u<l
  ·have hltq:u<q.length:=by rw [<- Hl.out];exact hlt
   obtain ⟨b,rfl,hbL,hcc⟩:=HQ.out (by omega);obtain ⟨A',c',r0,r1,r2,r3,r5⟩:=hcc u hltq;have hv0:=HV.out u hltq;have hxin0:=HIN.out u hltq;have hsm0:=HSM.out u hltq;have hHR:holdsR ys (rat q u)=holdsB (rat q u).k (rat q u).v (pks ys (rat q u).xs (rat q u).xs.length):=rfl;obtain ⟨rk,hrk⟩:∃ x,x=(rat q u).k:=⟨_,rfl⟩;obtain ⟨rx,hrx⟩:∃ x,x=(rat q u).xs:=⟨_,rfl⟩;obtain ⟨rvv,hrv⟩:∃ x,x=(rat q u).v:=⟨_,rfl⟩;have hv1:rv rk rx rvv s=true:=(by rw [hrk,hrx,hrv];exact hv0);rw [<- hrk,<-hrx,<-hrv] at hHR;rw [<- hrk] at r0;rw [<- hrx] at r1 r3 r5 hxin0 hsm0;rw [<- hrv] at r2;obtain ⟨_,⟨hn1,hn4⟩,hk2,_⟩:=rv_facts rfl hv1;have hin':(u:Int)<(l:Int):=(by omega);have hbX:=cell_lt r0;have r0:=(hb.cell (p:=⟨b,u*3,none⟩) hbX).trans r0;have r1:=(hb.cell (p:=⟨b,u*3+1,none⟩) hbX).trans r1;have r2:=(hb.cell (p:=⟨b,u*3+2,none⟩) hbX).trans r2;have hy:=rbox_new wr rk A' rx.length c' rvv 88;have hb1:Below wr.heap.size wr (wr.alloc (.cells #[.int .i64 rk,.slice A' rx.length c',.int .i64 rvv] 88)):=(Below.refl _ _).alloc (Nat.le_refl _) _;obtain ⟨y0,y1,y2⟩:=id hy;have hx1:=hx.below (Nat.lt_of_lt_of_le (Nat.lt_succ_self _) hsw) hb1
   obtain ⟨d0,d1,d2⟩:=id hx1;have hbw:=hb.trans (hb1.mono hb.size);have hs1:X.heap.size<(wr.alloc (.cells #[.int .i64 rk,.slice A' rx.length c',.int .i64 rvv] 88)).heap.size:=(by simp;omega);have hs2:wr.heap.size<(wr.alloc (.cells #[.int .i64 rk,.slice A' rx.length c',.int .i64 rvv] 88)).heap.size:=(by simp);obtain ⟨W,hW⟩:∃ W,wr.alloc (.cells #[.int .i64 rk,.slice A' rx.length c',.int .i64 rvv] 88)=W:=⟨_,rfl⟩;rw [hW] at hy y0 y1 y2 hx1 d0 d1 d2 hbw hs1 hs2
   have HS:Hid (∀ w',Below W.heap.size W w'->w'.cell? ⟨wr.heap.size,0,none⟩=some (.int .i64 rk)/\w'.cell? ⟨wr.heap.size,1,none⟩=some (.slice A' rx.length c')/\w'.cell? ⟨wr.heap.size,2,none⟩=some (.int .i64 rvv)/\w'.cell? ⟨X.heap.size,0,none⟩=some (.slice (some ⟨G,0,none⟩) n n)):=
    Lib.hid (fun w' hb=>by
     obtain ⟨e0,e1,e2⟩:=hy.below hs2 hb
     exact ⟨e0,e1,e2,(hx1.below hs1 hb).1⟩)
   have HPK:=Lib.hid (fun w' (hb2:Below W.heap.size W w')=>implPick (some ⟨G,0,none⟩) n n X.heap.size ys A' c' rx.length B0 rx w' (HG.out.below (hbw.trans (hb2.mono hbw.size))) (r3.below (H0.out.trans ((hbw.trans (hb2.mono hbw.size)).mono (Nat.le_trans hB0 H0.out.size)))) (Nat.le_trans hbw.size hb2.size) (Nat.le_trans (Nat.le_trans (Nat.le_trans hB0 H0.out.size) hbw.size) hb2.size) (by omega) hxin0);have Hpl:=Lib.hid (pks_length ys rx rx.length);have Hsm:=Lib.hid hsm0;have Hk:=Lib.hid (rv_kind hv1);have Hk2:rk=1\/rk=2\/rk=3\/2<=rx.length:=hk2;obtain ⟨bb,hbb⟩:∃ bb,holdsB rk rvv (pks ys rx rx.length)=bb:=⟨_,rfl⟩
   have Hbb:=Lib.hid hbb;have Hbw:=Lib.hid hbw;have hx1':=Lib.hid hx1;have Hlt:=Lib.hid hlt;have HR:Hid (holdsR ys (rat q u)=bb):=Lib.hid (hHR.trans hbb)
   have HU:=Lib.hid (show ∀ b',bb=b'->(b'=false->holdsQ ys q=false)/\(b'=true->Hid (allR (holdsR ys) q (u+1))) from fun b' e=>⟨fun h=>not_all_rat rfl hltq (by rw [HR.out,e,h]),fun h=>Lib.hid (fun i hi=>by
    by_cases e2:i=u
    ·subst e2;rw [HR.out,e,h]
    ·exact hall.out i (by omega))⟩)
   have Hofk:=Lib.hid (fun w'=>ofKind_any A' c' rx.length rk rvv w');clear hrk hrx hrv hcc hsm0 hbb hv0 hv1 hx hb1 hHR hk2 hxin0 r3 hbX hltq hall hrow0
   rcases Hk.out with rfl|rfl|rfl|rfl|rfl
   ·have M:∀ w,(method 323 183 (.agg #[.int .i64 1,.slice A' rx.length c',.int .i64 rvv]) "loop.example/gridpuzzles/impl.holdsWith").run Tryz.prog w=.ok (220,.agg #[.int .i64 1,.slice A' rx.length c',.int .i64 rvv]) w:=fun w=>mHolds1 _ _ _ _ _ w
    have NA:∀ w,(nilAhead 323 183 (.agg #[.int .i64 1,.slice A' rx.length c',.int .i64 rvv]) "loop.example/gridpuzzles/impl.holdsWith").run Tryz.prog w=.ok (some false) w:=fun w=>nHolds1 _ _ _ _ _ w
    have h2:4<=1->2<=rx.length:=(by omega);have Hofi:ofk 1 (rval 1 A' rx.length c' rvv)=.iface 183 (.agg #[.int .i64 1,.slice A' rx.length c',.int .i64 rvv]):=rfl;rw [Hofi] at Hofk;clear Hofi
    go_wp2_with fail
    go_region_held3 (fun w'=>w'.cell? ⟨wr.heap.size,0,none⟩=some (.int .i64 1)/\w'.cell? ⟨wr.heap.size,1,none⟩=some (.slice A' rx.length c')/\w'.cell? ⟨wr.heap.size,2,none⟩=some (.int .i64 rvv)/\w'.cell? ⟨X.heap.size,0,none⟩=some (.slice (some ⟨G,0,none⟩) n n))
     (first|go_keep|exact HS.out _ h6|exact HS.out _ h3|exact HS.out _ h5)
     ((first
       |(go_simp;go_at_call 220;refine (hold1 _ _ _ _ _ _ _ _ _ _ (by first|exact ho3.rd|exact ho3.rd.below hb5') (by first|exact Nat.le_refl _|exact hb5'.size) hn4 ho3.le_cap Hsm h2).mono ?_;rw [Hbb.out];rintro e w6 ⟨rfl,hb6'⟩;have h6:Below W.heap.size W w6:=(by first|exact step h5 hb6'|exact step h3 hb6'|exact step h5.drew hb6'|exact step h3.drew hb6'))
       |(go_simp;go_at_call 181;refine (HPK.out _ (by first|exact (Below.refl _ _).drew|exact h5|exact h5.drew|exact Below.refl _ _)).mono ?_;rintro e w3 ⟨A3,c3,rfl,ho3,hb3'⟩;rw [Hpl.out] at ho3 ⊢;have h3:Below W.heap.size W w3:=(by first|exact ((Below.refl _ _).drew).trans hb3'|exact step h5 hb3'|exact step h5.drew hb3'|exact hb3'))
       |(go_simp;go_at_call 175;refine (Hofk.out _).mono ?_;rintro e w5 ⟨rfl,hb5'⟩;have h5:Below W.heap.size W w5:=(by first|exact ((Below.refl _ _).drew).trans hb5'|exact step h3 hb5'|exact step h3.drew hb5'|exact hb5'))))
    all_goals
     cases bb
     ·have HF:=Lib.hid ((HU.out false rfl).1 rfl)
      go_wp2
      go_ret
      exact ⟨by rw [HF.out];rfl,step Hbw.out h6⟩
     ·have HT:=(HU.out true rfl).2 rfl
      go_wp2
      go_roundw
      case rel=>exact ⟨u+1,Hlt.out,by go_num,HT,hx1'.out.below hs1 h6,step Hbw.out h6,Nat.le_trans hs1 h6.size⟩
      case measure=>have:=Hlt.out;simp [intOf];omega
   ·have M:∀ w,(method 323 184 (.agg #[.int .i64 2,.slice A' rx.length c',.int .i64 rvv]) "loop.example/gridpuzzles/impl.holdsWith").run Tryz.prog w=.ok (222,.agg #[.int .i64 2,.slice A' rx.length c',.int .i64 rvv]) w:=fun w=>mHolds2 _ _ _ _ _ w
    have NA:∀ w,(nilAhead 323 184 (.agg #[.int .i64 2,.slice A' rx.length c',.int .i64 rvv]) "loop.example/gridpuzzles/impl.holdsWith").run Tryz.prog w=.ok (some false) w:=fun w=>nHolds2 _ _ _ _ _ w
    have h2:4<=2->2<=rx.length:=(by omega);have Hofi:ofk 2 (rval 2 A' rx.length c' rvv)=.iface 184 (.agg #[.int .i64 2,.slice A' rx.length c',.int .i64 rvv]):=rfl;rw [Hofi] at Hofk;clear Hofi
    go_wp2_with fail
    go_region_held3 (fun w'=>w'.cell? ⟨wr.heap.size,0,none⟩=some (.int .i64 2)/\w'.cell? ⟨wr.heap.size,1,none⟩=some (.slice A' rx.length c')/\w'.cell? ⟨wr.heap.size,2,none⟩=some (.int .i64 rvv)/\w'.cell? ⟨X.heap.size,0,none⟩=some (.slice (some ⟨G,0,none⟩) n n))
     (first|go_keep|exact HS.out _ h6|exact HS.out _ h3|exact HS.out _ h5)
     ((first
       |(go_simp;go_at_call 222;refine (hold2 _ _ _ _ _ _ _ _ _ _ (by first|exact ho3.rd|exact ho3.rd.below hb5') (by first|exact Nat.le_refl _|exact hb5'.size) hn4 ho3.le_cap Hsm h2).mono ?_;rw [Hbb.out];rintro e w6 ⟨rfl,hb6'⟩;have h6:Below W.heap.size W w6:=(by first|exact step h5 hb6'|exact step h3 hb6'|exact step h5.drew hb6'|exact step h3.drew hb6'))
       |(go_simp;go_at_call 181;refine (HPK.out _ (by first|exact (Below.refl _ _).drew|exact h5|exact h5.drew|exact Below.refl _ _)).mono ?_;rintro e w3 ⟨A3,c3,rfl,ho3,hb3'⟩;rw [Hpl.out] at ho3 ⊢;have h3:Below W.heap.size W w3:=(by first|exact ((Below.refl _ _).drew).trans hb3'|exact step h5 hb3'|exact step h5.drew hb3'|exact hb3'))
       |(go_simp;go_at_call 175;refine (Hofk.out _).mono ?_;rintro e w5 ⟨rfl,hb5'⟩;have h5:Below W.heap.size W w5:=(by first|exact ((Below.refl _ _).drew).trans hb5'|exact step h3 hb5'|exact step h3.drew hb5'|exact hb5'))))
    all_goals
     cases bb
     ·have HF:=Lib.hid ((HU.out false rfl).1 rfl)
      go_wp2
      go_ret
      exact ⟨by rw [HF.out];rfl,step Hbw.out h6⟩
     ·have HT:=(HU.out true rfl).2 rfl
      go_wp2
      go_roundw
      case rel=>exact ⟨u+1,Hlt.out,by go_num,HT,hx1'.out.below hs1 h6,step Hbw.out h6,Nat.le_trans hs1 h6.size⟩
      case measure=>have:=Hlt.out;simp [intOf];omega
   ·have M:∀ w,(method 323 185 (.agg #[.int .i64 3,.slice A' rx.length c',.int .i64 rvv]) "loop.example/gridpuzzles/impl.holdsWith").run Tryz.prog w=.ok (225,.agg #[.int .i64 3,.slice A' rx.length c',.int .i64 rvv]) w:=fun w=>mHolds3 _ _ _ _ _ w
    have NA:∀ w,(nilAhead 323 185 (.agg #[.int .i64 3,.slice A' rx.length c',.int .i64 rvv]) "loop.example/gridpuzzles/impl.holdsWith").run Tryz.prog w=.ok (some false) w:=fun w=>nHolds3 _ _ _ _ _ w
    have h2:4<=3->2<=rx.length:=(by omega);have Hofi:ofk 3 (rval 3 A' rx.length c' rvv)=.iface 185 (.agg #[.int .i64 3,.slice A' rx.length c',.int .i64 rvv]):=rfl;rw [Hofi] at Hofk;clear Hofi
    go_wp2_with fail
    go_region_held3 (fun w'=>w'.cell? ⟨wr.heap.size,0,none⟩=some (.int .i64 3)/\w'.cell? ⟨wr.heap.size,1,none⟩=some (.slice A' rx.length c')/\w'.cell? ⟨wr.heap.size,2,none⟩=some (.int .i64 rvv)/\w'.cell? ⟨X.heap.size,0,none⟩=some (.slice (some ⟨G,0,none⟩) n n))
     (first|go_keep|exact HS.out _ h6|exact HS.out _ h3|exact HS.out _ h5)
     ((first
       |(go_simp;go_at_call 225;refine (hold3 _ _ _ _ _ _ _ _ _ _ (by first|exact ho3.rd|exact ho3.rd.below hb5') (by first|exact Nat.le_refl _|exact hb5'.size) hn4 ho3.le_cap Hsm h2).mono ?_;rw [Hbb.out];rintro e w6 ⟨rfl,hb6'⟩;have h6:Below W.heap.size W w6:=(by first|exact step h5 hb6'|exact step h3 hb6'|exact step h5.drew hb6'|exact step h3.drew hb6'))
       |(go_simp;go_at_call 181;refine (HPK.out _ (by first|exact (Below.refl _ _).drew|exact h5|exact h5.drew|exact Below.refl _ _)).mono ?_;rintro e w3 ⟨A3,c3,rfl,ho3,hb3'⟩;rw [Hpl.out] at ho3 ⊢;have h3:Below W.heap.size W w3:=(by first|exact ((Below.refl _ _).drew).trans hb3'|exact step h5 hb3'|exact step h5.drew hb3'|exact hb3'))
       |(go_simp;go_at_call 175;refine (Hofk.out _).mono ?_;rintro e w5 ⟨rfl,hb5'⟩;have h5:Below W.heap.size W w5:=(by first|exact ((Below.refl _ _).drew).trans hb5'|exact step h3 hb5'|exact step h3.drew hb5'|exact hb5'))))
    all_goals
     cases bb
     ·have HF:=Lib.hid ((HU.out false rfl).1 rfl)
      go_wp2
      go_ret
      exact ⟨by rw [HF.out];rfl,step Hbw.out h6⟩
     ·have HT:=(HU.out true rfl).2 rfl
      go_wp2
      go_roundw
      case rel=>exact ⟨u+1,Hlt.out,by go_num,HT,hx1'.out.below hs1 h6,step Hbw.out h6,Nat.le_trans hs1 h6.size⟩
      case measure=>have:=Hlt.out;simp [intOf];omega
   ·have M:∀ w,(method 323 186 (.agg #[.int .i64 4,.slice A' rx.length c',.int .i64 rvv]) "loop.example/gridpuzzles/impl.holdsWith").run Tryz.prog w=.ok (227,.agg #[.int .i64 4,.slice A' rx.length c',.int .i64 rvv]) w:=fun w=>mHolds4 _ _ _ _ _ w
    have NA:∀ w,(nilAhead 323 186 (.agg #[.int .i64 4,.slice A' rx.length c',.int .i64 rvv]) "loop.example/gridpuzzles/impl.holdsWith").run Tryz.prog w=.ok (some false) w:=fun w=>nHolds4 _ _ _ _ _ w
    have h2:4<=4->2<=rx.length:=(by omega);have Hofi:ofk 4 (rval 4 A' rx.length c' rvv)=.iface 186 (.agg #[.int .i64 4,.slice A' rx.length c',.int .i64 rvv]):=rfl;rw [Hofi] at Hofk;clear Hofi
    go_wp2_with fail
    go_region_held3 (fun w'=>w'.cell? ⟨wr.heap.size,0,none⟩=some (.int .i64 4)/\w'.cell? ⟨wr.heap.size,1,none⟩=some (.slice A' rx.length c')/\w'.cell? ⟨wr.heap.size,2,none⟩=some (.int .i64 rvv)/\w'.cell? ⟨X.heap.size,0,none⟩=some (.slice (some ⟨G,0,none⟩) n n))
     (first|go_keep|exact HS.out _ h6|exact HS.out _ h3|exact HS.out _ h5)
     ((first
       |(go_simp;go_at_call 227;refine (hold4 _ _ _ _ _ _ _ _ _ _ (by first|exact ho3.rd|exact ho3.rd.below hb5') (by first|exact Nat.le_refl _|exact hb5'.size) hn4 ho3.le_cap Hsm h2).mono ?_;rw [Hbb.out];rintro e w6 ⟨rfl,hb6'⟩;have h6:Below W.heap.size W w6:=(by first|exact step h5 hb6'|exact step h3 hb6'|exact step h5.drew hb6'|exact step h3.drew hb6'))
       |(go_simp;go_at_call 181;refine (HPK.out _ (by first|exact (Below.refl _ _).drew|exact h5|exact h5.drew|exact Below.refl _ _)).mono ?_;rintro e w3 ⟨A3,c3,rfl,ho3,hb3'⟩;rw [Hpl.out] at ho3 ⊢;have h3:Below W.heap.size W w3:=(by first|exact ((Below.refl _ _).drew).trans hb3'|exact step h5 hb3'|exact step h5.drew hb3'|exact hb3'))
       |(go_simp;go_at_call 175;refine (Hofk.out _).mono ?_;rintro e w5 ⟨rfl,hb5'⟩;have h5:Below W.heap.size W w5:=(by first|exact ((Below.refl _ _).drew).trans hb5'|exact step h3 hb5'|exact step h3.drew hb5'|exact hb5'))))
    all_goals
     cases bb
     ·have HF:=Lib.hid ((HU.out false rfl).1 rfl)
      go_wp2
      go_ret
      exact ⟨by rw [HF.out];rfl,step Hbw.out h6⟩
     ·have HT:=(HU.out true rfl).2 rfl
      go_wp2
      go_roundw
      case rel=>exact ⟨u+1,Hlt.out,by go_num,HT,hx1'.out.below hs1 h6,step Hbw.out h6,Nat.le_trans hs1 h6.size⟩
      case measure=>have:=Hlt.out;simp [intOf];omega
   ·have M:∀ w,(method 323 187 (.agg #[.int .i64 5,.slice A' rx.length c',.int .i64 rvv]) "loop.example/gridpuzzles/impl.holdsWith").run Tryz.prog w=.ok (229,.agg #[.int .i64 5,.slice A' rx.length c',.int .i64 rvv]) w:=fun w=>mHolds5 _ _ _ _ _ w
    have NA:∀ w,(nilAhead 323 187 (.agg #[.int .i64 5,.slice A' rx.length c',.int .i64 rvv]) "loop.example/gridpuzzles/impl.holdsWith").run Tryz.prog w=.ok (some false) w:=fun w=>nHolds5 _ _ _ _ _ w
    have h2:4<=5->2<=rx.length:=(by omega);have Hofi:ofk 5 (rval 5 A' rx.length c' rvv)=.iface 187 (.agg #[.int .i64 5,.slice A' rx.length c',.int .i64 rvv]):=rfl;rw [Hofi] at Hofk;clear Hofi
    go_wp2_with fail
    go_region_held3 (fun w'=>w'.cell? ⟨wr.heap.size,0,none⟩=some (.int .i64 5)/\w'.cell? ⟨wr.heap.size,1,none⟩=some (.slice A' rx.length c')/\w'.cell? ⟨wr.heap.size,2,none⟩=some (.int .i64 rvv)/\w'.cell? ⟨X.heap.size,0,none⟩=some (.slice (some ⟨G,0,none⟩) n n))
     (first|go_keep|exact HS.out _ h6|exact HS.out _ h3|exact HS.out _ h5)
     ((first
       |(go_simp;go_at_call 229;refine (hold5 _ _ _ _ _ _ _ _ _ _ (by first|exact ho3.rd|exact ho3.rd.below hb5') (by first|exact Nat.le_refl _|exact hb5'.size) hn4 ho3.le_cap Hsm h2).mono ?_;rw [Hbb.out];rintro e w6 ⟨rfl,hb6'⟩;have h6:Below W.heap.size W w6:=(by first|exact step h5 hb6'|exact step h3 hb6'|exact step h5.drew hb6'|exact step h3.drew hb6'))
       |(go_simp;go_at_call 181;refine (HPK.out _ (by first|exact (Below.refl _ _).drew|exact h5|exact h5.drew|exact Below.refl _ _)).mono ?_;rintro e w3 ⟨A3,c3,rfl,ho3,hb3'⟩;rw [Hpl.out] at ho3 ⊢;have h3:Below W.heap.size W w3:=(by first|exact ((Below.refl _ _).drew).trans hb3'|exact step h5 hb3'|exact step h5.drew hb3'|exact hb3'))
       |(go_simp;go_at_call 175;refine (Hofk.out _).mono ?_;rintro e w5 ⟨rfl,hb5'⟩;have h5:Below W.heap.size W w5:=(by first|exact ((Below.refl _ _).drew).trans hb5'|exact step h3 hb5'|exact step h3.drew hb5'|exact hb5'))))
    all_goals
     cases bb
     ·have HF:=Lib.hid ((HU.out false rfl).1 rfl)
      go_wp2
      go_ret
      exact ⟨by rw [HF.out];rfl,step Hbw.out h6⟩
     ·have HT:=(HU.out true rfl).2 rfl
      go_wp2
      go_roundw
      case rel=>exact ⟨u+1,Hlt.out,by go_num,HT,hx1'.out.below hs1 h6,step Hbw.out h6,Nat.le_trans hs1 h6.size⟩
      case measure=>have:=Hlt.out;simp [intOf];omega
  ·obtain rfl:u=l:=by omega
   have HL:=Lib.hid (show holdsQ ys q=true from all_rat Hl.out.symm hall.out)
   go_wp2
   go_ret
   exact ⟨by rw [HL.out];rfl,hb⟩
theorem low_idx:∀ p,p<16->IntKind.u64.wrap (((2^p:Nat):Int)*285870213051353865)/288230376151711744=((tzI.getD p 0:Nat):Int)/\tzI.getD p 0<64:=by decide +kernel
theorem tz64_any (L p:Nat) (w:World) (hL:L<2^64) (hb:L.testBit p=true) (h0:∀ j,j<p->L.testBit j=false) (hp:p<16) (hT:Tz w):
 Calls Tryz.prog 166 #[.int .u64 L] w fun e w'=>e=.returned (.int .i64 p)/\w=w':=by
 have hpos:0<L:=by
  rcases Nat.eq_zero_or_pos L with h|h
  ·rw [h,Nat.zero_testBit] at hb;cases hb
  ·exact h
 obtain ⟨k1,k2⟩:=low_idx p hp;refine tz64_core L p (tzI.getD p 0) w (by simp;omega) ?_ k2 (by omega) (hT p hp)
 have e:IntKind.u64.wrap (-(L:Int))=((2^64-L:Nat):Int):=by
  rw [IntKind.wrap_u64];omega
 rw [e,bits_and_u64_nat L (2^64-L) (by omega) (by omega),low_and hL hb h0 (by omega)];exact k1
theorem pow_u64 {a:Nat} (h:a<64):IntKind.u64.wrap ((2:Int)^a)=((2^a:Nat):Int):=by
 have:2^a<2^64:=Nat.pow_lt_pow_right (by omega) h;rw [IntKind.wrap_u64,pow_int]
 generalize 2^a=p at*
 omega
theorem items_core (S:Int) (r q c v a b:Nat) (w:World) (hS:S=2\/S=3\/S=4) (hr:(c:Int)/S=r) (hq:S+(c:Int)%S=q) (ha:(S+r)*S+v-1=a) (hb:(S+q)*S+v-1=b) (hc:c<16) (ha48:a<48) (hb48:b<48) (hr8:r<8) (hq8:q<8) (hv:v<=4):
 Calls Tryz.prog 164 #[.int .i64 S,.int .i64 c,.int .i64 v] w fun e w'=>e=.returned (.int .u64 ((2^c|||2^a|||2^b:Nat):Int))/\Below w.heap.size w w':=by
 have pc:2^c<2^64:=Nat.pow_lt_pow_right (by omega) (by omega);have pa:2^a<2^64:=Nat.pow_lt_pow_right (by omega) (by omega);have pb:2^b<2^64:=Nat.pow_lt_pow_right (by omega) (by omega);have o1:=Lib.hid (bits_or_u64_nat (2^c) (2^a) (by omega) (by omega));have o2:=Lib.hid (bits_or_u64_nat (2^c|||2^a) (2^b) (by have:=Nat.or_lt_two_pow pc pa;omega) (by omega));have Pc:=Lib.hid (pow_u64 (a:=c) (by omega));have Pa:=Lib.hid (pow_u64 (a:=a) (by omega));have Pb:=Lib.hid (pow_u64 (a:=b) (by omega));have HL:=Lib.hid (linesThrough_rc S c r q w (by omega) (by omega) hc hr hq)
 clear pc pa pb hr hq
 rcases hS with rfl|rfl|rfl
 all_goals
  have Ha:=Lib.hid ha;have Hb:=Lib.hid hb;have ea:IntKind.i64.wrap ((a:Int))=a:=IntWalk.i64_in _ (by omega);clear ha hb
  go_enter Tryz.func164,Tryz.ntmps164
  go_wp2_with (go_at_call 160;refine HL.out.mono ?_;rintro e w1 ⟨rfl,hb1⟩)
  rw [Ha.out,Hb.out]
  go_quiet (fail)
  go_wp2
  go_ret
  refine ⟨?_,below_drewN hb1 _⟩
  show Ending.returned (.int .u64 (bits .or .u64 (bits .or .u64 (IntKind.u64.wrap (2^c)) (IntKind.u64.wrap (2^a))) (IntKind.u64.wrap (2^b))))=_
  rw [Pc.out,Pa.out,Pb.out,o1.out,o2.out]
theorem itemsOf_any (s c v:Nat) (w:World) (hs:s∈[2,3,4]) (hc:c<s*s) (v1:1<=v) (v2:v<=s):
 Calls Tryz.prog 164 #[.int .i64 s,.int .i64 c,.int .i64 v] w fun e w'=>e=.returned (.int .u64 ((itN s c v:Nat):Int))/\Below w.heap.size w w':=by
 refine items_core s (c/s) (s+c%s) c v ((s+c/s)*s+v-1) ((s+(s+c%s))*s+v-1) w ?_ (by simp) (by simp) ?_ ?_ ?_ ?_ ?_ ?_ ?_ ?_
 all_goals
  simp only [List.mem_cons,List.not_mem_nil,or_false] at hs
  rcases hs with rfl|rfl|rfl<;>omega
theorem allItems_any (s:Nat) (w:World) (hs:s∈[2,3,4]):
 Calls Tryz.prog 126 #[.int .i64 s] w fun e w'=>e=.returned (.int .u64 ((2^(3*s*s)-1:Nat):Int))/\w=w':=by
 simp only [List.mem_cons,List.not_mem_nil,or_false] at hs
 rcases hs with rfl|rfl|rfl
 all_goals
  go_enter Tryz.func126,Tryz.ntmps126
  go_wp2
  go_ret
  exact ⟨by kernel_rfl,rfl⟩
theorem max_any (A:Option Addr) (n c B:Nat) (xs:List Int) (w:World) (h:Rd w B A n xs) (hn:0<n) (hm:n<=1099511627776) (hx:∀ i,i<n->0<=nth xs i/\nth xs i<16):
 Calls Tryz.prog 165 #[.slice A n c] w fun e w'=>e=.returned (.int .i64 ((lastN xs n:Nat):Int))/\w=w':=by
 obtain ⟨b,off,rfl,_,hc0⟩:=h.at_ hn
 have hnI:¬ (n:Int)<1:=by omega
 have HX:=Lib.hid hx
 have hlast:∀ u,u<=n->lastN xs u<16:=by
  intro u
  induction u with
  |zero=>intro _;simp [lastN]
  |succ u ih=>
   intro hu;have:=ih (by omega);have:=hx u (by omega);simp only [lastN];omega
 have HLt:=Lib.hid hlast
 have h1:nth xs 0=((lastN xs 1:Nat):Int):=by
  have:=hx 0 hn;simp only [lastN];omega
 rw [h1,Nat.add_zero] at hc0;clear hx h1 hlast
 go_enter Tryz.func165,Tryz.ntmps165
 go_wp2
 go_loopw [3,4] (fun m i wr=>∃ u:Nat,1<=u/\u<=n/\i=.int .i64 u/\m=.int .i64 (lastN xs u:Nat)/\wr=w) (fun _ i _=>n-(intOf i).toNat)
 case atStart=>exact ⟨1,Nat.le_refl _,hn,rfl,rfl,rfl⟩
 case round=>
  obtain ⟨u,hu1,hu,rfl,rfl,rfl⟩:=hrel
  by_cases hlt:u<n
  ·obtain ⟨b',off',e,_,hck⟩:=h.at_ hlt;cases e;have hltI:(u:Int)<(n:Int):=(by omega);obtain ⟨x0,x1⟩:=HX.out u hlt;have hl16:=HLt.out u hu;have Hst:=Lib.hid (show (if ((lastN xs u:Nat):Int)<nth xs u then nth xs u else ((lastN xs u:Nat):Int))=((lastN xs (u+1):Nat):Int) by simp only [lastN];split<;>omega)
   go_wp2
   go_roundw
   case rel=>exact ⟨u+1,by omega,by omega,by go_num,by rw [<- Hst.out],trivial⟩
   case measure=>simp [intOf];omega
  ·obtain rfl:u=n:=by omega
   go_wp2
   go_ret
   exact ⟨rfl,rfl⟩
theorem opt_in {s:Nat} {gi:List Int} {c:Nat} (hok:0<=nth gi c/\nth gi c<=(s:Int)) {v:Int} (h:v∈optL s gi c):∃ u:Nat,v=(u:Int)/\1<=u/\u<=s:=by
 obtain ⟨t,e,t1,t4,hb⟩:=bits_iff.1 h;refine ⟨t,e,t1,?_⟩;unfold candN at hb
 split at hb
 ·next h0=>
  rw [Nat.testBit_two_pow,decide_eq_true_eq] at hb;omega
 ·rw [Int.toNat_natCast] at hb;exact ((candTo_test gi s c t s).1 hb).2.1
theorem nth_mem {xs:List Int} {k:Nat} (h:k<xs.length):nth xs k∈xs:=by
 have:nth xs k=xs[k]:=by simp [nth,List.getD_eq_getElem?_getD,h]
 rw [this];exact List.getElem_mem h
theorem holdsQ_is {rs:List RuleM} {us:List Int} {p:Nat}:holdsQ us (rulesAt rs p)=rlOk rs us p:=by
 unfold holdsQ rlOk;rw [Bool.eq_iff_iff,List.all_eq_true,List.all_eq_true]
 constructor
 ·intro h r hr;obtain ⟨i,hi,rfl⟩:=rat_mem hr;exact h i (List.mem_range.2 hi)
 ·intro h i hi;rw [List.mem_range] at hi;refine h _ ?_
  have:rat (rulesAt rs p) i=(rulesAt rs p)[i]:=by simp [rat,List.getD_eq_getElem?_getD,hi]
  rw [this];exact List.getElem_mem hi
theorem at_ok {s:Nat} {rs:List RuleM} {p:Nat} (hr:∀ i,i<rs.length->rvR s (rat rs i)=true) {i:Nat} (hi:i<(rulesAt rs p).length):rvR s (rat (rulesAt rs p) i)=true/\∀ j,j<(rat (rulesAt rs p) i).xs.length->0<=nth (rat (rulesAt rs p) i).xs j/\(nth (rat (rulesAt rs p) i).xs j).toNat<=p:=by
 have hm:rat (rulesAt rs p) i∈rulesAt rs p:=by
  have:rat (rulesAt rs p) i=(rulesAt rs p)[i]:=by simp [rat,List.getD_eq_getElem?_getD,hi]
  rw [this];exact List.getElem_mem hi
 obtain ⟨h1,h2⟩:=List.mem_filter.1 hm;rw [beq_iff_eq] at h2;obtain ⟨k,hk,e⟩:=rat_mem h1;have hv:=hr k hk;rw [e] at hv;refine ⟨hv,fun j hj=>⟨((rv_cells hv).2 j hj).1,?_⟩⟩;have:=lastN_ge (xs:=(rat (rulesAt rs p) i).xs) hj;unfold lastR at h2;omega
theorem holdsQ_congr {q:List RuleM} {us ys:List Int} {p:Nat} (h:∀ i,i<=p->nth us i=nth ys i) (hq:∀ i,i<q.length->∀ j,j<(rat q i).xs.length->(nth (rat q i).xs j).toNat<=p):holdsQ us q=holdsQ ys q:=by
 unfold holdsQ;rw [Bool.eq_iff_iff,List.all_eq_true,List.all_eq_true]
 have key:∀ i,i<q.length->holdsR us (rat q i)=holdsR ys (rat q i):=fun i hi=>by
  unfold holdsR
  have:pks us (rat q i).xs (rat q i).xs.length=pks ys (rat q i).xs (rat q i).xs.length:=by
   apply ext_nth (by rw [pks_length,pks_length])
   intro k hk;rw [pks_length] at hk;rw [pks_nth hk,pks_nth hk];exact h _ (hq i hi k hk)
  rw [this]
 constructor
 ·intro H i hi;rw [<- key i (List.mem_range.1 hi)];exact H i hi
 ·intro H i hi;rw [key i (List.mem_range.1 hi)];exact H i hi
theorem take_flat {L:List Int} {F:Int->List (List Int)} {u:Nat} (h:u<L.length):(L.take (u+1)).flatMap F=(L.take u).flatMap F++F (nth L u):=by
 rw [List.take_add_one,List.getElem?_eq_getElem h,List.flatMap_append]
 simp [nth,List.getD_eq_getElem?_getD,h]
def CovPost (J:List (List Int)->World->Prop) (Jx:World->Prop) (M lo G n:Nat) (vs:List Int) (X:World) (ways:List (List Int)) (e:Ending) (Y:World):Prop:=
 (e=.returned (.bool true)/\J ways Y/\MidX M G X Y/\∃ ys,Ow Y lo (some ⟨G,0,none⟩) n n ys/\∀ i,i<vs.length->nth ys i=nth vs i)\/(e=.returned (.bool false)/\Jx Y)
theorem SBox.midx {w w':World} {M g G0 G OB RB n:Nat} (h:SBox w g G OB RB n) (hm:MidX M G0 w w') (h1:M<=g) (h2:g≠G0):SBox w' g G OB RB n:=
 ⟨hm.cell h.1 h1 h2,hm.cell h.2.1 h1 h2,hm.cell h.2.2 h1 h2⟩
theorem own_cells {w:World} {lo sz k cap:Nat} {t:TypeId} {A:Option Addr} {vs:List Value} (h:w.ownsRow lo t sz (.slice A k cap) k vs) (hk:0<k):∃ g,A=some ⟨g,0,none⟩/\lo<=g/\g<w.heap.size/\∀ j u,vs[j]? =some u->w.cell? ⟨g,j,none⟩=some u:=by
 obtain ⟨hvl,hcase⟩:=id h
 rcases hcase with ⟨_,h0⟩|⟨g,cap',cur,hv,hlog,hrow,h1,h2,h3,h4⟩
 ·omega
 ·injection hv with hA _ _
  subst hA;refine ⟨g,rfl,hlog,(Array.getElem?_eq_some_iff.1 hrow).1,fun j u hj=>?_⟩;rw [cell_of_row w g j cur _ _ hrow];rw [<- h4,List.getElem?_take] at hj
  split at hj
  ·simpa using hj
  ·cases hj
theorem own_kept {w w':World} {lo sz k:Nat} {t:TypeId} {v:Value} {vs:List Value} {row:Option Nat} (h:w.ownsRow lo t sz v k vs) (hg:w.grownBy w' row) (hne:∀ g,v.ownBlock=some g->row≠some g):w'.ownsRow lo t sz v k vs:=by
 refine World.ownsRow.kept h hg ?_
 cases e:v.ownBlock with
 |none=>exact .inl rfl
 |some g=>exact .inr (fun he=>hne g e he.symm)
theorem own_below {w w':World} {lo sz k:Nat} {t:TypeId} {v:Value} {vs:List Value} (h:w.ownsRow lo t sz v k vs) (hb:Below w.heap.size w w'):w'.ownsRow lo t sz v k vs:=
 own_kept (row:=none) h ⟨hb.os,hb.tape,hb.output,hb.size,fun k hk _=>hb.block k hk⟩ (fun g _ e=>by cases e)
def PsG (SB f OB c n:Nat) (A:Option Addr) (t cap:Nat) (cells:Array Value) (elT:TypeId) (sz lo:Nat) (vs:List Value) (B:Nat):Nat->Value->World->Prop
 |0,v,_=>v=.pointer (some ⟨SB,f,none⟩)
 |1,v,_=>v=.slice (some ⟨OB,0,none⟩) n n
 |2,v,_=>v=.int .i64 (c:Nat)
 |3,v,_=>v=.pointer (some ⟨SB,f,none⟩)
 |4,v,_=>v=.slice (some ⟨OB,0,none⟩) n n
 |5,v,_=>v=.int .i64 (c:Nat)
 |6,v,_=>v=.pointer (some ⟨OB,c,none⟩)
 |7,v,_=>v=.slice A t cap
 |8,v,_=>v=.agg cells
 |9,v,w=>∃ g,v=.slice (some ⟨g,0,none⟩) 1 1/\w.heap[g]? =some (.cells cells elT)/\(Value.slice A t cap).ownBlock≠some g
 |10,v,w=>∃ g' cap',v=.slice (some ⟨g',0,none⟩) (t+1) cap'/\w.ownsRow lo elT sz (.slice (some ⟨g',0,none⟩) (t+1) cap') (t+1) (vs++cells.toList)/\((Value.slice A t cap).ownBlock=some g'\/B<=g')
 |11,v,_=>v=.pointer (some ⟨OB,c,none⟩)
 |_,_,_=>True
theorem psG_eff {SB f OB c n:Nat} {A:Option Addr} {t cap:Nat} {cells:Array Value} {elT:TypeId} {sz lo:Nat} {vs:List Value} {B:Nat} (j i:Nat) (v:Value) (w1 w2:World) (hji:j≠i) (he:(i=10->w1.grownBy w2 (Value.slice A t cap).ownBlock)/\(i≠10->Below w1.heap.size w1 w2)) (h:PsG SB f OB c n A t cap cells elT sz lo vs B j v w1):PsG SB f OB c n A t cap cells elT sz lo vs B j v w2:=by
 unfold PsG at h ⊢
 split at h
 all_goals first
  |exact h
  |(obtain ⟨g,e,h1,h2⟩:=h
    refine ⟨g,e,?_,h2⟩
    by_cases hi:i=10
    ·exact ((he.1 hi).block g (Array.getElem?_eq_some_iff.1 h1).1 (fun e2=>h2 e2.symm)).trans h1
    ·exact ((he.2 hi).block g (Array.getElem?_eq_some_iff.1 h1).1).trans h1)
  |(obtain ⟨g',cap',e,h1,h2⟩:=h
    exact ⟨g',cap',e,own_below h1 (he.2 (fun e2=>hji e2.symm)),h2⟩)
theorem flat2_get {α β:Type} (f:α->β×β):∀ (L:List α) (i:Nat) (hi:i<L.length),(L.flatMap fun x=>[(f x).1,(f x).2])[i*2]? =some (f L[i]).1/\(L.flatMap fun x=>[(f x).1,(f x).2])[i*2+1]? =some (f L[i]).2:=by
 intro L
 induction L with
 |nil=>intro i hi;cases hi
 |cons a L ih=>
  intro i hi
  match i,hi with
  |0,_=>simp
  |i+1,hi=>
   have:=ih i (by simpa using hi);simp only [List.flatMap_cons,List.cons_append,List.nil_append,show (i+1)*2=i*2+2 by omega,show i*2+2+1=(i*2+1)+2 by omega,List.getElem?_cons_succ,List.getElem_cons_succ];exact this
theorem flat3_get {α β:Type} (f:α->β×β×β):∀ (L:List α) (i:Nat) (hi:i<L.length),(L.flatMap fun x=>[(f x).1,(f x).2.1,(f x).2.2])[i*3]? =some (f L[i]).1/\(L.flatMap fun x=>[(f x).1,(f x).2.1,(f x).2.2])[i*3+1]? =some (f L[i]).2.1/\(L.flatMap fun x=>[(f x).1,(f x).2.1,(f x).2.2])[i*3+2]? =some (f L[i]).2.2:=by
 intro L
 induction L with
 |nil=>intro i hi;cases hi
 |cons a L ih=>
  intro i hi
  match i,hi with
  |0,_=>simp
  |i+1,hi=>
   have:=ih i (by simpa using hi);simp only [List.flatMap_cons,List.cons_append,List.nil_append,show (i+1)*3=i*3+3 by omega,show i*3+3+1=(i*3+1)+3 by omega,show i*3+3+2=(i*3+2)+3 by omega,List.getElem?_cons_succ,List.getElem_cons_succ];exact this
def optP (s c:Nat) (x:Int):Value×Value:=(.int .i64 x,.int .u64 ((itN s c x.toNat:Nat):Int))
def optV (s c:Nat) (vs:List Int):List Value:=vs.flatMap fun x=>[(optP s c x).1,(optP s c x).2]
theorem optV_push (s c:Nat) (vs:List Int) (x:Int):optV s c (vs++[x])=optV s c vs++[.int .i64 x,.int .u64 ((itN s c x.toNat:Nat):Int)]:=by
 simp [optV,optP]
def rulP (RA:Nat->Option Addr) (RC:Nat->Nat) (rs:List RuleM) (i:Nat):Value×Value×Value:=(.int .i64 (rat rs i).k,.slice (RA i) (rat rs i).xs.length (RC i),.int .i64 (rat rs i).v)
def rulV (RA:Nat->Option Addr) (RC:Nat->Nat) (rs:List RuleM) (L:List Nat):List Value:=L.flatMap fun i=>[(rulP RA RC rs i).1,(rulP RA RC rs i).2.1,(rulP RA RC rs i).2.2]
theorem rulV_push (RA:Nat->Option Addr) (RC:Nat->Nat) (rs:List RuleM) (L:List Nat) (i:Nat):rulV RA RC rs (L++[i])=rulV RA RC rs L++[.int .i64 (rat rs i).k,.slice (RA i) (rat rs i).xs.length (RC i),.int .i64 (rat rs i).v]:=by
 simp [rulV,rulP]
def ixR (rs:List RuleM) (c r:Nat):List Nat:=(List.range r).filter fun i=>lastR (rat rs i)==c
theorem ixR_succ (rs:List RuleM) (c r:Nat):ixR rs c (r+1)=ixR rs c r++(if lastR (rat rs r)=c then [r] else []):=by
 unfold ixR;rw [List.range_succ,List.filter_append]
 congr 1
 by_cases h:lastR (rat rs r)=c
 ·rw [if_pos h];simp [h]
 ·rw [if_neg h];simp [h]
theorem rulesAt_ix (rs:List RuleM) (c:Nat):rulesAt rs c=(ixR rs c rs.length).map (rat rs):=by
 unfold rulesAt ixR
 have key:rs=(List.range rs.length).map (rat rs):=by
  apply List.ext_getElem
  ·simp
  ·intro i h1 h2
   simp [rat,List.getD_eq_getElem?_getD,h1]
 conv=>lhs;rw [key]
 rw [List.filter_map];rfl
def rowsArr (R:Nat->Value) (n:Nat):Array Value:=((List.range n).map R).toArray
theorem rowsArr_size (R:Nat->Value) (n:Nat):(rowsArr R n).size=n:=by simp [rowsArr]
theorem rowsArr_get {R:Nat->Value} {n c:Nat} (h:c<n):(rowsArr R n)[c]? =some (R c):=by simp [rowsArr,h]
def updR (R:Nat->Value) (c:Nat) (v:Value):Nat->Value:=fun j=>if j=c then v else R j
theorem rowsArr_set (R:Nat->Value) (n c:Nat) (v:Value):(rowsArr R n).setIfInBounds c v=rowsArr (updR R c v) n:=by
 apply Array.ext_getElem?
 intro i;rw [Array.getElem?_setIfInBounds]
 by_cases hi:i<n
 ·rw [rowsArr_get hi,rowsArr_get hi,rowsArr_size];unfold updR
  by_cases e:c=i
  ·subst e;rw [if_pos rfl,if_pos hi,if_pos rfl]
  ·rw [if_neg e,if_neg (fun e'=>e e'.symm)]
 ·rw [Array.getElem?_eq_none (by rw [rowsArr_size];omega),Array.getElem?_eq_none (by rw [rowsArr_size];omega)]
  split
  ·rename_i e;rw [rowsArr_size,if_neg (by omega)]
  ·rfl
def Arr (w:World) (g:Nat) (t:TypeId) (R:Nat->Value) (n:Nat):Prop:=w.heap[g]? =some (.cells (rowsArr R n) t)
theorem Arr.lt {w:World} {g n:Nat} {t:TypeId} {R:Nat->Value} (h:Arr w g t R n):g<w.heap.size:=(Array.getElem?_eq_some_iff.1 h).1
theorem Arr.cell {w:World} {g n c:Nat} {t:TypeId} {R:Nat->Value} (h:Arr w g t R n) (hc:c<n):w.cell? ⟨g,c,none⟩=some (R c):=(cell_of_row w g c _ _ _ h).trans (rowsArr_get hc)
theorem Arr.free {w:World} {g n:Nat} {t:TypeId} {R:Nat->Value} (h:Arr w g t R n) (c:Nat):w.frozen? ⟨g,c,none⟩=false:=frozen_of_row w g c _ _ h
theorem Arr.set {w:World} {g n:Nat} {t:TypeId} {R:Nat->Value} (h:Arr w g t R n) (c:Nat) (v:Value):Arr (w.setCell ⟨g,c,none⟩ v) g t (updR R c v) n:=by
 unfold Arr;rw [heap_setCell_same w g c _ _ _ h,rowsArr_set]
theorem Arr.kept {w w':World} {g n:Nat} {t:TypeId} {R:Nat->Value} (h:Arr w g t R n) (e:w'.heap[g]? =w.heap[g]?):Arr w' g t R n:=e.trans h
theorem nils_arr (n:Nat):madeCells #[Value.slice none 0 0] n=rowsArr (fun _=>.slice none 0 0) n:=by
 apply Array.toList_inj.1
 rw [toList_madeCells_one]
 simp [rowsArr]
 apply List.ext_getElem<;>simp
theorem rdo_own {w:World} {lo L s c cap:Nat} {A:Option Addr} {vs:List Int} (h:w.ownsRow lo 166 2 (.slice A vs.length cap) vs.length (optV s c vs)) (hL:L<=lo):RdO w L A s c vs:=fun hn=>by
 obtain ⟨g,rfl,hg,_,hc⟩:=own_cells h hn;refine ⟨g,rfl,by omega,fun i hi=>?_⟩;obtain ⟨f1,f2⟩:=flat2_get (optP s c) vs i hi
 have e:nth vs i=vs[i]:=by simp [nth,List.getD_eq_getElem?_getD,hi]
 rw [e];exact ⟨hc _ _ f1,hc _ _ f2⟩
theorem rdw_own {W0 w:World} {B0 lo L k cap c:Nat} {A:Option Addr} {RA:Nat->Option Addr} {RC:Nat->Nat} {rs:List RuleM} (h:w.ownsRow lo 88 3 (.slice A k cap) k (rulV RA RC rs (ixR rs c rs.length))) (hk:k=(ixR rs c rs.length).length) (hL:L<=lo)
 (hR:∀ i,i<rs.length->Rd W0 B0 (RA i) (rat rs i).xs.length (rat rs i).xs/\(rat rs i).xs.length<=RC i):RdW W0 B0 w L A (rulesAt rs c):=fun hn=>by
 have hlen:(rulesAt rs c).length=(ixR rs c rs.length).length:=by rw [rulesAt_ix,List.length_map]
 obtain ⟨g,rfl,hg,_,hc⟩:=own_cells h (by omega);refine ⟨g,rfl,by omega,fun i hi=>?_⟩
 have hi':i<(ixR rs c rs.length).length:=by omega
 obtain ⟨f1,f2,f3⟩:=flat3_get (rulP RA RC rs) (ixR rs c rs.length) i hi'
 have e:rat (rulesAt rs c) i=rat rs (ixR rs c rs.length)[i]:=by
  rw [rulesAt_ix]
  show ((ixR rs c rs.length).map (rat rs)).getD i rnone=_
  rw [List.getD_eq_getElem?_getD,List.getElem?_map,List.getElem?_eq_getElem hi'];rfl
 have hm:(ixR rs c rs.length)[i]<rs.length:=by
  have:=List.getElem_mem hi';exact List.mem_range.1 (List.mem_filter.1 this).1
 rw [e];obtain ⟨r1,r2⟩:=hR _ hm;exact ⟨_,_,hc _ _ f1,hc _ _ f2,hc _ _ f3,r1,r2⟩
theorem ow_row {w:World} {lo g n:Nat} (h:w.heap[g]? =some (.cells (zeroArr n) 3)) (hlo:lo<=g) (hn:n<=1099511627776):Ow w lo (some ⟨g,0,none⟩) n n (zeros n):=by
 have hz:(zeroArr n).toList=vals (zeros n):=by
  rw [zeroArr,toList_madeCells_one]
  simp [vals,zeros]
 have hsz:(zeroArr n).size=n:=by simp [zeroArr,madeCells]
 refine ⟨by simp [vals,zeros],.inr ⟨g,n,zeroArr n,rfl,hlo,h,?_,?_,?_,?_⟩⟩
 all_goals first|(simp only [maxLen];omega)|(rw [hsz];omega)|(rw [hz,Nat.mul_one,List.take_of_length_le (by simp [vals,zeros])])|omega
theorem rdrc_fun {W:World} {B n:Nat} {A:Option Addr} {rs:List RuleM} (h:RdRc W B A n rs):∃ (b off:Nat) (RA:Nat->Option Addr) (RC:Nat->Nat),(0<n->A=some ⟨b,off,none⟩/\b<B)/\∀ i,i<n->W.cell? ⟨b,off+i*3,none⟩=some (.int .i64 (rat rs i).k)/\W.cell? ⟨b,off+i*3+1,none⟩=some (.slice (RA i) (rat rs i).xs.length (RC i))/\W.cell? ⟨b,off+i*3+2,none⟩=some (.int .i64 (rat rs i).v)/\Rd W B (RA i) (rat rs i).xs.length (rat rs i).xs/\(rat rs i).xs.length<=RC i:=by
 by_cases h0:0<n
 ·obtain ⟨b,off,e,hlt,hc⟩:=h.2 h0
  have key:∀ i,∃ q:Option Addr×Nat,i<n->W.cell? ⟨b,off+i*3,none⟩=some (.int .i64 (rat rs i).k)/\W.cell? ⟨b,off+i*3+1,none⟩=some (.slice q.1 (rat rs i).xs.length q.2)/\W.cell? ⟨b,off+i*3+2,none⟩=some (.int .i64 (rat rs i).v)/\Rd W B q.1 (rat rs i).xs.length (rat rs i).xs/\(rat rs i).xs.length<=q.2:=fun i=>by
   by_cases hi:i<n
   ·obtain ⟨A',c',a0,a1,a2,a3,_,a5⟩:=hc i hi;exact ⟨(A',c'),fun _=>⟨a0,a1,a2,a3,a5⟩⟩
   ·exact ⟨(none,0),fun h=>absurd h hi⟩
  obtain ⟨f,hf⟩:=Classical.axiomOfChoice key;exact ⟨b,off,fun i=>(f i).1,fun i=>(f i).2,fun _=>⟨e,hlt⟩,hf⟩
 ·exact ⟨0,0,fun _=>none,fun _=>0,fun h=>absurd h h0,fun i hi=>absurd hi (by omega)⟩
def bump (C:Nat->Nat) (j:Nat):Nat->Nat:=fun i=>if i=j then C i+1 else C i
def cnt (xs:List Int) (s:Nat):Nat->(Nat->Nat)
 |0=>fun _=>0
 |k+1=>bump (bump (cnt xs s k) (k/s*5+(nth xs k).toNat)) ((s+k%s)*5+(nth xs k).toNat)
theorem bump_zero (C:Nat->Nat) (a b j:Nat):bump (bump C a) b j=0↔C j=0/\j≠a/\j≠b:=by
 show (if j=b then (if j=a then C j+1 else C j)+1 else (if j=a then C j+1 else C j))=0↔_
 split<;>split<;>omega
theorem bump_le (C:Nat->Nat) (a j:Nat):bump C a j<=C j+1:=by
 unfold bump
 split<;>omega
theorem cnt_le (xs:List Int) (s k j:Nat):cnt xs s k j<=2*k:=by
 induction k with
 |zero=>simp [cnt]
 |succ k ih=>
  simp only [cnt];have h1:=bump_le (bump (cnt xs s k) (k/s*5+(nth xs k).toNat)) ((s+k%s)*5+(nth xs k).toNat) j;have h2:=bump_le (cnt xs s k) (k/s*5+(nth xs k).toNat) j;omega
theorem cnt_zero {xs:List Int} {s n:Nat} (hs4:s<=4) (hok:okAll xs s n) (l v:Nat) (hv:v<5):∀ k,k<=n->(cnt xs s k (l*5+v)=0↔∀ i,i<k->onL s l i=true->nth xs i≠(v:Int)):=by
 intro k
 induction k with
 |zero=>intro _;simp [cnt]
 |succ k ih=>
  intro hk;obtain ⟨x0,x4⟩:=hok k (by omega);simp only [cnt];rw [bump_zero,ih (by omega)]
  have hon:onL s l k=true↔(k/s=l\/s+k%s=l):=by simp [onL]
  constructor
  ·rintro ⟨h0,h1,h2⟩ i hi ho he
   by_cases e:i=k
   ·subst e
    rcases hon.1 ho with h|h
    ·exact h1 (by rw [h];omega)
    ·exact h2 (by rw [h];omega)
   ·exact h0 i (by omega) ho he
  ·intro h;refine ⟨fun i hi=>h i (by omega),fun e=>?_,fun e=>?_⟩
   ·exact h k (by omega) (hon.2 (.inl (by omega))) (by omega)
   ·exact h k (by omega) (hon.2 (.inr (by omega))) (by omega)
def freeTo (C:Nat->Nat) (r c:Nat):Nat->Nat
 |0=>0
 |v+1=>if C (r*5+(v+1))+C (c*5+(v+1))=0 then freeTo C r c v|||2^(v+1) else freeTo C r c v
theorem freeTo_lt (C:Nat->Nat) (r c v:Nat) (hv:v<=4):freeTo C r c v<32:=by
 induction v with
 |zero=>simp [freeTo]
 |succ v ih=>
  simp only [freeTo]
  split
  ·exact Nat.or_lt_two_pow (n:=5) (ih (by omega)) (Nat.pow_lt_pow_right (by omega) (by omega))
  ·exact ih (by omega)
theorem free_cand {xs:List Int} {s n k:Nat} (hs:s∈[2,3,4]) (hn:n=s*s) (hok:okAll xs s n) (hk:k<n) (hz:nth xs k=0):∀ v,v<=s->freeTo (cnt xs s n) (k/s) (s+k%s) v=candTo xs s k v:=by
 have hs4:s<=4:=by simp at hs;omega
 intro v
 induction v with
 |zero=>intro _;rfl
 |succ v ih=>
  intro hv;simp only [freeTo,candTo,Int.toNat_natCast]
  have hc:((v:Int)+1)=((v+1:Nat):Int):=by omega
  have key:cnt xs s n (k/s*5+(v+1))+cnt xs s n ((s+k%s)*5+(v+1))=0↔okTo3 xs s k ((v:Int)+1) s=true:=by
   rw [hc,ok3_adj hs (by omega),Nat.add_eq_zero_iff,cnt_zero hs4 hok _ _ (by omega) n (Nat.le_refl _),cnt_zero hs4 hok _ _ (by omega) n (Nat.le_refl _)]
   constructor
   ·rintro ⟨h1,h2⟩ i hi ha;rw [onL_adj s hs i hi k (by omega)] at ha;simp only [Bool.and_eq_true,Bool.or_eq_true] at ha
    rcases ha.2 with h|h
    ·exact h1 i (by omega) h
    ·exact h2 i (by omega) h
   ·intro h
    have side:∀ l,(l=k/s\/l=s+k%s)->∀ i,i<n->onL s l i=true->nth xs i≠((v+1:Nat):Int):=by
     intro l hl i hi ho
     by_cases e:i=k
     ·subst e;rw [hz];omega
     ·refine h i (by omega) ?_;rw [onL_adj s hs i (by omega) k (by omega)]
      rcases hl with rfl|rfl
      ·simp [ho,e]
      ·simp [ho,e]
    exact ⟨side _ (.inl rfl),side _ (.inr rfl)⟩
  rw [ih (by omega)]
  by_cases h:cnt xs s n (k/s*5+(v+1))+cnt xs s n ((s+k%s)*5+(v+1))=0
  ·rw [if_pos h,if_pos (key.1 h)]
  ·rw [if_neg h,if_neg (fun h'=>h (key.2 h'))]
theorem valuesIn_any (M:Nat) (hM:M<32) (w:World):Calls Tryz.prog 163 #[.int .i64 M] w (RetSl w (bitsTo M 4)):=by
 go_enter Tryz.func163,Tryz.ntmps163
 go_wp2
 go_loopw [3,4] (fun v i wr=>∃ u:Nat,u<=4/\i=.int .i64 ((u:Int)+1)/\OwV wr w.heap.size v (bitsTo M u)/\Below w.heap.size w wr) (fun _ i _=>(5-intOf i).toNat)
 case atStart=>exact ⟨0,by omega,rfl,⟨_,_,rfl,Ow.nil_ _ _⟩,Below.refl _ _⟩
 case round=>
  obtain ⟨u,hu,rfl,⟨A',c',rfl,ho⟩,hb⟩:=hrel;have hmb:=bitsTo_length M u
  have hkb:(bitsTo M u).length<=1099511627776:=by omega
  by_cases hlt:u<4
  ·have hstep:bitsTo M (u+1)=bitsTo M u++(if M.testBit (u+1)=true then [(u:Int)+1] else []):=rfl;have hsh:=and_pow M (u+1) hM (by omega);have htn:((u:Int)+1).toNat=u+1:=(by omega);cases hh:M.testBit (u+1)
   ·rw [hh] at hstep hsh;have Hst:=Lib.hid (show bitsTo M (u+1)=bitsTo M u by rw [hstep];simp);clear hh hstep
    go_wp2
    go_roundw
    case rel=>exact ⟨u+1,by omega,by go_num,⟨A',c',by rw [Hst.out],by rw [Hst.out];exact ho⟩,hb⟩
    case measure=>simp [intOf];omega
   ·rw [hh] at hstep hsh;have Hst:=Lib.hid (show bitsTo M (u+1)=bitsTo M u++[(u:Int)+1] by rw [hstep];simp);clear hh hstep
    go_wp2_with (at_builtin;refine push_int rfl (.tmp 14) (.tmp 16) rfl w.heap.size A' _ c' (bitsTo M u) _ rfl rfl ho hkb hb.size ?_;intro A'' c'' w1 ho1 hg1)
    have ho2:OwV w1 w.heap.size (.slice A'' ((bitsTo M u).length+1) c'') (bitsTo M (u+1)):=by
     refine ⟨A'',c'',by rw [Hst.out,List.length_append];rfl,?_⟩;rw [Hst.out,List.length_append];exact ho1
    have hb2:=push_below hb ho (Nat.le_refl _) hb.size hg1;clear ho1 hg1
    go_roundw
    case rel=>exact ⟨u+1,by omega,by go_num,ho2,hb2⟩
    case measure=>simp [intOf];omega
  ·obtain rfl:u=4:=by omega
   go_wp2
   go_ret
   exact retSl_mk ho hb
end Go.Proofs.YtkeoflnmbcdmfaaGreatDoor
