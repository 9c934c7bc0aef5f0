import Derived.Test.YtlnmioijgclndaaGreatDoorJYI3G
set_option maxRecDepth 8000
namespace Go.Proofs.YtlnmioijgclndaaGreatDoor
open Go.ChangeShapes Go.WideShapes Go.ChangeAt Go.RowKit
def mgC9 (t M:Nat):Bool:=Nat.ble (2^(t+1)-1) M||(decide (0<=oneOf (bitsTo M 4))&&decide (oneOf (bitsTo M 4)<=(t:Int)))
theorem mgC9_all:∀ t∈[2,3,4],∀ M,M<32->mgC9 t M=true:=by decide +kernel
theorem mask_top9 {m:List Int} {s M k:Nat} (hs:s∈[2,3,4]) (hm:mvd m s=true) (hk:k<m.length) (hM:nth m k=(M:Int)):M<=2^(s+1)-2:=by
 simp only [mvd,Bool.and_eq_true,List.all_eq_true] at hm;have h1:=hm.2 m[k] (List.getElem_mem hk);simp only [mkOk,Bool.and_eq_true] at h1;obtain ⟨_,y2⟩:=inr_t h1.1
 have e:nth m k=m[k]:=by simp [nth,List.getD_eq_getElem?_getD,hk]
 rw [<- e,hM,Int.toNat_natCast] at y2
 have e2:((2:Int)^(s+1)-2)=((2^(s+1)-2:Nat):Int):=by
  simp at hs
  rcases hs with rfl|rfl|rfl<;>decide
 rw [e2] at y2;omega
theorem mgL_valid9 {m:List Int} {s:Int} (hm:mvd m s=true):gv (mgL m s) s=true:=by
 obtain ⟨⟨s2,s4⟩,_,_,_⟩:=mvd_at hm;obtain ⟨t,rfl⟩:∃ t:Nat,s=t:=⟨s.toNat,by omega⟩
 have hs:t∈[2,3,4]:=by simp;omega
 have hl:=len_of hs hm
 have e:mgL m t=mapTo (mgG m) m.length:=by simp [mgL,hm]
 rw [e];refine okAll_gv' hs (by rw [mapTo_length,hl]) (fun i hi=>?_);rw [mapTo_nth (by omega)];unfold mgG;obtain ⟨M,hM,hM32,eM⟩:=mv_bits' hm i;have hb:M<=2^(t+1)-2:=mask_top9 hs hm (by omega) hM;have h:=mgC9_all t hs M hM32;rw [eM];unfold mgC9 at h
 rcases Bool.or_eq_true_iff.1 h with h|h
 ·have h1:=Nat.le_of_ble_eq_true h
  have h2:2<=2^(t+1):=by
   have:=Nat.two_pow_pos t;rw [Nat.pow_succ];omega
  omega
 ·simp only [Bool.and_eq_true,decide_eq_true_eq] at h;exact h
theorem cnz_of {xs:List Int}:∀ {k:Nat},(∀ j,j<k->nth xs j≠0)->cnz xs k=k
 |0,_=>by simp [cnz]
 |k+1,h=>by rw [cnz_nz (h k (by omega)),cnz_of (fun j hj=>h j (by omega))]
def sbB (s:Int) (n:Nat) (gi:List Int) (rs:List RuleM) (t:Int):Bool:=(let g:=mgL (naL s gi rs (startL s gi rs n) t) s;!memTo g 0 g.length)
def gpF (s:Int) (n:Nat) (gi:List Int) (rs:List RuleM):Nat->Nat->Int
 |0,_=>5
 |d+1,t=>if sbB s n gi rs (t:Nat)=true then (t:Nat) else gpF s n gi rs d (t+1)
def gpI (s:Int) (n:Nat) (gi:List Int) (rs:List RuleM):Int:=if pvB s gi rs=true then (if (allS s 2 n gi rs).length=1 then gpF s n gi rs 4 1 else 0) else -1
theorem memTo_at9 {xs:List Int} {v:Int}:∀ {n:Nat},memTo xs v n=true->∃ k,k<n/\nth xs k=v
 |0,h=>by simp [memTo] at h
 |n+1,h=>by
  simp only [memTo,Bool.or_eq_true,beq_iff_eq] at h
  rcases h with h|h
  ·obtain ⟨k,hk,e⟩:=memTo_at9 h;exact ⟨k,by omega,e⟩
  ·exact ⟨n,by omega,h⟩
theorem gp_fill {m:List Int} {s:Int} (hm:mvd m s=true):(gf (mgL m s) s=(m.length:Int))↔memTo (mgL m s) 0 (mgL m s).length=false:=by
 have hl:(mgL m s).length=m.length:=by simp [mgL,hm,mapTo_length]
 unfold gf;rw [if_pos (mgL_valid9 hm),hl]
 constructor
 ·intro e
  have e2:cnz (mgL m s) m.length=m.length:=by omega
  have h:=cnz_all e2
  cases hm0:memTo (mgL m s) 0 (mgL m s).length with
  |false=>rw [<- hl];exact hm0
  |true=>
   obtain ⟨k,hk,e0⟩:=memTo_at9 hm0;exact absurd e0 (h k (by omega))
 ·intro e
  have:cnz (mgL m s) m.length=m.length:=cnz_of (fun j hj h0=>by
   have:=memTo_hit (xs:=mgL m s) (v:=0) (by omega:j<(mgL m s).length) h0
   rw [hl,e] at this;cases this)
  omega
set_option maxHeartbeats 2000000 in
theorem solvedBy_any (t:Nat) (Ag:Option Addr) (n cg Bg:Nat) (gi:List Int) (Ar:Option Addr) (nr cr Br:Nat) (rs:List RuleM) (M:Nat) (w:World) (hp:PGc w (t:Nat) Ag n cg Bg gi Ar nr cr Br rs) (hT:Tz w) (hv:pvB (t:Nat) gi rs=true) (hM:1<=M/\M<=4):
 Calls Tryz.prog 54 #[.agg #[.int .i64 (t:Nat),.slice Ag n cg,.slice Ar nr cr],.int .i64 (M:Nat)] w fun e w'=>e=.returned (.bool (sbB (t:Nat) n gi rs (M:Nat)))/\Below w.heap.size w w':=by
 have hx0:=pbox_new w (t:Nat) Ag n cg Ar nr cr 26;obtain ⟨W,hW⟩:∃ W,w.alloc (.cells #[.int .i64 (t:Nat),.slice Ag n cg,.slice Ar nr cr] 26)=W:=⟨_,rfl⟩
 have hb0:Below w.heap.size w W:=by rw [<- hW];exact (Below.refl _ _).alloc (Nat.le_refl _) _
 have hs0:w.heap.size<W.heap.size:=by rw [<- hW];simp
 rw [hW] at hx0;obtain ⟨hXl,hXv⟩:=start_mvdM (rs:=rs) hp.g.1 hv
 have hn16:n<=16:=by
  have:=(mvd_at hXv).2.2.1;omega
 have hts: -9223372036854775808<=((t:Nat):Int)/\((t:Nat):Int)<=9223372036854775807:=by
  have:=(mvd_at hXv).1;omega
 obtain ⟨X,hX⟩:∃ X,X=startL (t:Nat) gi rs n:=⟨_,rfl⟩;rw [<- hX] at hXl hXv;obtain ⟨Y,hY⟩:∃ Y,Y=naL (t:Nat) gi rs X (M:Nat):=⟨_,rfl⟩
 have hYv:mvd Y (t:Nat)=true:=by
  rw [hY];unfold naL;rw [if_pos (by simp [hv,hXv,inr];omega),Int.toNat_natCast];exact (na_wi hv hM.2 hXv).2.1
 have hYl:Y.length<=16:=(mvd_at hYv).2.2.1;have HS:=Lib.hid (show sbB (t:Nat) n gi rs (M:Nat)= !memTo (mgL Y (t:Nat)) 0 (mgL Y (t:Nat)).length by rw [hY,hX];rfl)
 have HI0:=Lib.hid (fun w' (hb:Below W.heap.size W w')=>by
  have:=implStartMasks _ _ _ _ _ _ _ _ _ _ _ _ (hp.below (step hb0 hb));rw [<- hX] at this
  exact this)
 have hdr:Below W.heap.size W W.drew:=(Below.refl _ _).drew;have hX64:=b64_mvd hXv;have hY64:=b64_mvd hYv;have HTz:=Lib.hid (fun w' (hb:Below W.heap.size W w')=>hT.below hT.lt (step hb0 hb))
 have HI:=Lib.hid (fun (A9:Option Addr) (c9 n9 B9:Nat) (w':World) (hb:Below W.heap.size W w') (hr:Rd w' B9 A9 n9 X) (hB:B9<=w'.heap.size) (h9:n9<=1099511627776)=>by
  have:=implNarrowAll _ _ _ _ _ _ _ _ _ _ _ A9 c9 n9 B9 X (M:Nat) w' (hp.below (step hb0 hb)) hr hB hX64 h9 (HTz.out _ hb) hts;rw [<- hY] at this
  exact this)
 have HMG:=Lib.hid (fun (A9:Option Addr) (c9 n9 B9:Nat) (w':World) (hb:Below W.heap.size W w') (hr:Rd w' B9 A9 n9 Y) (hB:B9<=w'.heap.size) (h9:n9<=1099511627776)=>implMasksGrid A9 c9 n9 B9 Y (t:Nat) w' hr hY64 (HTz.out _ hb) hB h9 hts);have HX:=Lib.hid (fun w' (hb:Below W.heap.size W w')=>hx0.below hs0 hb);have HB:=Lib.hid (fun w' (hb:Below W.heap.size W w')=>step hb0 hb);have HW:=Lib.hid hW
 have hgl:(mgL Y (t:Nat)).length<=16:=by simp [mgL,hYv,mapTo_length];omega
 have hX16:X.length<=1099511627776:=by omega
 have hY16:Y.length<=1099511627776:=by omega
 obtain ⟨z0,z1,z2⟩:=id hx0;clear hW hx0 hb0 hY hX hYv hXv hXl hYl hts hv hM hp hs0 hX64 hY64
 go_enter Tryz.func54,Tryz.ntmps54
 go_wp2_with fail
 rw [HW.out]
 go_region_with (first
  |(go_at_call 18;refine (HI0.out _ hdr).mono ?_;rintro e w2 ⟨Ax,cx,rfl,hox,hb2⟩;have h02:=step hdr hb2;obtain ⟨y0,y1,y2⟩:=HX.out _ h02)
  |(go_at_call 19;refine (HI.out _ _ _ _ _ h02 hox.rd (Nat.le_refl _) hX16).mono ?_;rintro e w3 ⟨A3,n3,c3,rfl,ho3,hb3⟩))
 all_goals
  obtain rfl:=ho3.len;have h03:=step h02 hb3;obtain ⟨x0,x1,x2⟩:=HX.out _ h03
  go_wp2_with (first
   |(go_at_call 25;refine (HMG.out _ _ _ _ _ h03 ho3.rd (Nat.le_refl _) hY16).mono ?_;rintro e w4 ⟨A4,c4,rfl,ho4,hb4⟩)
   |(go_at_call 104;refine (contains_any _ _ _ _ _ 0 _ ho4.rd (by omega)).mono ?_;rintro e w5 ⟨rfl,rfl⟩))
  go_ret
  exact ⟨by rw [HS.out];rfl,HB.out _ (step h03 hb4)⟩
set_option maxHeartbeats 2000000 in
theorem implGradePuzzle (s:Int) (Ag:Option Addr) (n cg Bg:Nat) (gi:List Int) (Ar:Option Addr) (nr cr Br:Nat) (rs:List RuleM) (w:World) (hp:PGc w s Ag n cg Bg gi Ar nr cr Br rs) (hT:Tz w):
 Calls Tryz.prog 14 #[.agg #[.int .i64 s,.slice Ag n cg,.slice Ar nr cr]] w fun e w'=>e=.returned (.int .i64 (gpI s n gi rs))/\Below w.heap.size w w':=by
 have hx0:=pbox_new w s Ag n cg Ar nr cr 26;obtain ⟨W,hW⟩:∃ W,w.alloc (.cells #[.int .i64 s,.slice Ag n cg,.slice Ar nr cr] 26)=W:=⟨_,rfl⟩
 have hb0:Below w.heap.size w W:=by rw [<- hW];exact (Below.refl _ _).alloc (Nat.le_refl _) _
 have hs0:w.heap.size<W.heap.size:=by rw [<- hW];simp
 rw [hW] at hx0;have HV:=Lib.hid (valid_any s Ag n cg Bg gi Ar nr cr Br rs W (hp.below hb0));have HX:=Lib.hid (fun w' (hb:Below W.heap.size W w')=>hx0.below hs0 hb);have HB:=Lib.hid (fun w' (hb:Below W.heap.size W w')=>step hb0 hb);have HW:=Lib.hid hW;obtain ⟨z0,z1,z2⟩:=id hx0;cases hv:pvB s gi rs
 ·have HL:=Lib.hid (show gpI s n gi rs= -1 by simp [gpI,hv])
  go_enter Tryz.func14,Tryz.ntmps14
  clear hW
  go_wp2_with fail
  rw [HW.out]
  go_wp2_with (go_at_call 52;refine HV.out.mono ?_;rintro e w1 ⟨rfl,hb1⟩;rw [hv])
  go_ret
  exact ⟨by rw [HL.out];rfl,HB.out _ hb1⟩
 ·obtain ⟨t,rfl,hs,_,_,_⟩:=pv_grid hv hp.g.1;have HCS:=Lib.hid (fun w' (hb:Below W.heap.size W w')=>hasOne_any _ _ _ _ _ _ _ _ _ _ _ w' (hp.below (step hb0 hb)) hv (hT.below hT.lt (step hb0 hb)));obtain ⟨q,hq⟩:∃ q,q=(allS t 2 n gi rs).length:=⟨_,rfl⟩;have HSB:=Lib.hid (fun (M:Nat) (h1:1<=M) (h4:M<=4) w' (hb:Below W.heap.size W w')=>solvedBy_any _ _ _ _ _ _ _ _ _ _ _ M w' (hp.below (step hb0 hb)) (hT.below hT.lt (step hb0 hb)) hv ⟨h1,h4⟩)
  by_cases h1:q=1
  ·have HL:=Lib.hid (show gpI t n gi rs=gpF t n gi rs 4 1 by simp [gpI,hv,<-hq,h1]);have HC:=Lib.hid (show oneB t n gi rs=true by unfold oneB;rw [<- hq,h1];rfl);subst h1;clear hW hx0 hb0 hs0 hp hq hs
   go_enter Tryz.func14,Tryz.ntmps14
   go_wp2_with fail
   rw [HW.out]
   go_wp2_with (first
    |(go_at_call 52;refine HV.out.mono ?_;rintro e w1 ⟨rfl,hb1⟩;rw [hv];obtain ⟨y0,y1,y2⟩:=HX.out _ hb1)
    |(go_at_call 53;refine (HCS.out _ hb1).mono ?_;rintro e w2 ⟨rfl,hb2⟩;rw [HC.out];have h02:=step hb1 hb2))
   go_loopw [3] (fun i wr=>∃ M:Nat,1<=M/\M<=5/\i=.int .i64 M/\gpF t n gi rs 4 1=gpF t n gi rs (5-M) M/\Below W.heap.size W wr) (fun i _=>5-(intOf i).toNat)
   case atStart=>exact ⟨1,by omega,by omega,rfl,rfl,h02⟩
   case round=>
    obtain ⟨M,m1,m5,rfl,hg,hb⟩:=hrel;obtain ⟨x0,x1,x2⟩:=HX.out _ hb
    by_cases hlt:M<=4
    ·have hltI:(M:Int)<=4:=(by omega)
     have HG:=Lib.hid (show gpF t n gi rs 4 1=if sbB t n gi rs (M:Nat)=true then ((M:Nat):Int) else gpF t n gi rs (4-M) (M+1) by
      rw [hg,show 5-M=(4-M)+1 by omega];rfl)
     clear hg;cases hsb:sbB t n gi rs (M:Nat)
     ·go_wp2_with (go_at_call 54;refine (HSB.out M m1 hlt _ hb).mono ?_;rintro e w3 ⟨rfl,hb3⟩;rw [hsb])
      go_roundw
      case rel=>exact ⟨M+1,by omega,by omega,by go_num,by rw [HG.out,hsb,if_neg (by simp),show 5-(M+1)=4-M by omega],step hb hb3⟩
      case measure=>simp [intOf];omega
     ·go_wp2_with (go_at_call 54;refine (HSB.out M m1 hlt _ hb).mono ?_;rintro e w3 ⟨rfl,hb3⟩;rw [hsb])
      go_ret
      exact ⟨by rw [HL.out,HG.out,hsb,if_pos rfl];rfl,HB.out _ (step hb hb3)⟩
    ·obtain rfl:M=5:=by omega
     have HG:=Lib.hid (show gpF t n gi rs 4 1=5 by rw [hg];rfl);clear hg
     go_wp2
     go_ret
     exact ⟨by rw [HL.out,HG.out];rfl,HB.out _ hb⟩
  ·have HL:=Lib.hid (show gpI t n gi rs=0 by
    unfold gpI;rw [if_pos hv,<-hq,if_neg h1])
   have HC:=Lib.hid (show oneB t n gi rs=false by unfold oneB;rw [<- hq,beq_eq_false_iff_ne];exact h1);clear hW hx0 hb0 hs0 hp hq hs
   go_enter Tryz.func14,Tryz.ntmps14
   go_wp2_with fail
   rw [HW.out]
   go_wp2_with (first
    |(go_at_call 52;refine HV.out.mono ?_;rintro e w1 ⟨rfl,hb1⟩;rw [hv];obtain ⟨y0,y1,y2⟩:=HX.out _ hb1)
    |(go_at_call 53;refine (HCS.out _ hb1).mono ?_;rintro e w2 ⟨rfl,hb2⟩;rw [HC.out];have h02:=step hb1 hb2))
   go_ret
   exact ⟨by rw [HL.out];rfl,HB.out _ h02⟩
set_option maxHeartbeats 4000000 in
theorem specGradePuzzle (s:Int) (Ag:Option Addr) (n cg Bg:Nat) (gi:List Int) (Ar:Option Addr) (nr cr Br:Nat) (rs:List RuleM) (w:World) (hp:PGs w s Ag n cg Bg gi Ar nr cr Br rs):
 Calls Tryz.prog 15 #[.agg #[.int .i64 s,.slice Ag n cg,.slice Ar nr cr]] w fun e w'=>e=.returned (.int .i64 (gpI s n gi rs))/\Below w.heap.size w w':=by
 have hx0:=pbox_new w s Ag n cg Ar nr cr 26;obtain ⟨W,hW⟩:∃ W,w.alloc (.cells #[.int .i64 s,.slice Ag n cg,.slice Ar nr cr] 26)=W:=⟨_,rfl⟩
 have hb0:Below w.heap.size w W:=by rw [<- hW];exact (Below.refl _ _).alloc (Nat.le_refl _) _
 have hs0:w.heap.size<W.heap.size:=by rw [<- hW];simp
 rw [hW] at hx0;have HP:=Lib.hid (specPuzzleValid s Ag n cg Bg gi Ar nr cr Br rs W (hp.below hb0).g (hp.below hb0).gB hp.gm (hp.below hb0).r (hp.below hb0).rB hp.rm);have HX:=Lib.hid (fun w' (hb:Below W.heap.size W w')=>hx0.below hs0 hb);have HB:=Lib.hid (fun w' (hb:Below W.heap.size W w')=>step hb0 hb);have HW:=Lib.hid hW;have HA:=Lib.hid (fun w' (hb:Below W.heap.size W w')=>(show Calls Tryz.prog 55 #[.agg #[.int .i64 s,.slice Ag n cg,.slice Ar nr cr],.int .i64 2] w' _ from specAll s 2 Ag n cg Bg gi Ar nr cr Br rs w' (hp.below (step hb0 hb)) (by omega) (by omega)))
 obtain ⟨z0,z1,z2⟩:=id hx0;cases hv:pvB s gi rs
 ·have HL:=Lib.hid (show gpI s n gi rs= -1 by simp [gpI,hv]);clear hW
  go_enter Tryz.func15,Tryz.ntmps15
  go_wp2_with fail
  rw [HW.out]
  go_wp2_with (go_at_call 22;refine HP.out.mono ?_;rintro e w1 ⟨rfl,hb1⟩;rw [hv])
  go_ret
  exact ⟨by rw [HL.out];rfl,HB.out _ hb1⟩
 ·obtain ⟨t,rfl,hs,_,_,_⟩:=pv_grid hv hp.g.1;obtain ⟨q,hq⟩:∃ q,q=(allS t 2 n gi rs).length:=⟨_,rfl⟩;obtain ⟨LA,hLA⟩:∃ LA,LA=allS t 2 n gi rs:=⟨_,rfl⟩;rw [<- hLA] at HA hq
  by_cases h1:q=1
  ·have HL:=Lib.hid (show gpI t n gi rs=gpF t n gi rs 4 1 by simp [gpI,hv,<-hLA,<-hq,h1]);obtain ⟨hXl,hXv⟩:=start_mvdM (rs:=rs) hp.g.1 hv;have hX16:=(mvd_at hXv).2.2.1
   have hts: -9223372036854775808<=((t:Nat):Int)/\((t:Nat):Int)<=9223372036854775807:=by
    have:=(mvd_at hXv).1;omega
   have HSM:=Lib.hid (fun w' (hb:Below W.heap.size W w')=>specStartMasks _ _ _ _ _ _ _ _ _ _ _ _ (hp.below (step hb0 hb)));have HNA:=Lib.hid (fun (A9:Option Addr) (c9 n9 B9 M:Nat) (w':World) (hb:Below W.heap.size W w') (hr:Rd w' B9 A9 n9 (startL t gi rs n)) (hB:B9<=w'.heap.size) (h9:n9<=1099511627776)=>specNarrowAllX _ _ _ _ _ _ _ _ _ _ _ A9 c9 n9 B9 _ (M:Nat) w' (hp.below (step hb0 hb)) hr hB h9 hts);have HMG:=Lib.hid (fun (A9:Option Addr) (c9 n9 B9:Nat) (Y:List Int) (w':World) (hr:Rd w' B9 A9 n9 Y) (hB:B9<=w'.heap.size) (h9:n9<=1099511627776)=>specMasksGrid A9 c9 n9 B9 Y (t:Nat) w' hr hB h9 hts)
   have HYv:=Lib.hid (fun (M:Nat) (h1:1<=M) (h4:M<=4)=>show mvd (naL t gi rs (startL t gi rs n) (M:Nat)) t=true by
    unfold naL;rw [if_pos (by simp [hv,hXv,inr];omega),Int.toNat_natCast]
    exact (na_wi hv h4 hXv).2.1)
   have HXl:Hid ((startL t gi rs n).length<=16):=Lib.hid hX16
   have HYc:=Lib.hid (fun (M:Nat) (h1:1<=M) (h4:M<=4)=>show ((gf (mgL (naL t gi rs (startL t gi rs n) (M:Nat)) t) t==((naL t gi rs (startL t gi rs n) (M:Nat)).length:Int))=sbB t n gi rs (M:Nat)) by
    rw [Bool.eq_iff_iff];simp only [beq_iff_eq,sbB];rw [gp_fill (HYv.out M h1 h4)]
    simp)
   have HYl:=Lib.hid (fun (M:Nat) (h1:1<=M) (h4:M<=4)=>(mvd_at (HYv.out M h1 h4)).2.2.1)
   have HGl:=Lib.hid (fun (M:Nat) (h1:1<=M) (h4:M<=4)=>show (mgL (naL t gi rs (startL t gi rs n) (M:Nat)) t).length<=16 by
    have:=HYl.out M h1 h4;simp only [mgL,HYv.out M h1 h4,if_true,mapTo_length]
    exact this)
   subst h1;have HQ:=Lib.hid hq;clear hq;obtain ⟨X,hX⟩:∃ X,X=startL t gi rs n:=⟨_,rfl⟩;rw [<- hX] at HSM HNA HYv HXl HYc HYl HGl;clear hW hx0 hb0 hs0 hp hs hX hXl hXv hX16 hts hLA
   go_enter Tryz.func15,Tryz.ntmps15
   go_wp2_with fail
   rw [HW.out]
   go_wp2_with (first
    |(go_at_call 22;refine HP.out.mono ?_;rintro e w1 ⟨rfl,hb1⟩;rw [hv];obtain ⟨y0,y1,y2⟩:=HX.out _ hb1)
    |(go_at_call 55;(refine (HA.out _ hb1).mono ?_);rintro e w2 ⟨P,v,rfl,hrows,hb2⟩;obtain ⟨A1,c1,vs,rfl,_⟩:=hrows;rw [<- HQ.out];have h02:=step hb1 hb2))
   go_loopw [3,4,5] (fun i _ _ wr=>∃ M:Nat,1<=M/\M<=5/\i=.int .i64 M/\gpF t n gi rs 4 1=gpF t n gi rs (5-M) M/\Below W.heap.size W wr) (fun i _ _ _=>5-(intOf i).toNat)
   case atStart=>exact ⟨1,by omega,by omega,rfl,rfl,h02⟩
   case round=>
    obtain ⟨M,m1,m5,rfl,hg,hb⟩:=hrel;obtain ⟨x0,x1,x2⟩:=HX.out _ hb
    by_cases hlt:M<=4
    ·have hltI:(M:Int)<=4:=(by omega)
     have HG:=Lib.hid (show gpF t n gi rs 4 1=if sbB t n gi rs (M:Nat)=true then ((M:Nat):Int) else gpF t n gi rs (4-M) (M+1) by
      rw [hg,show 5-M=(4-M)+1 by omega];rfl)
     obtain ⟨Y,hY⟩:∃ Y,Y=naL t gi rs X (M:Nat):=⟨_,rfl⟩
     have hNA:=fun (A9:Option Addr) (c9 n9 B9:Nat)=>HNA.out A9 c9 n9 B9 M
     have hYc:=HYc.out M m1 hlt;have hYl:=HYl.out M m1 hlt;have hGl:=HGl.out M m1 hlt;rw [<- hY] at hNA hYc hYl hGl;have hNA:=Lib.hid hNA;have hYc:=Lib.hid hYc;have hY16:Y.length<=1099511627776:=(by omega);have hg16:(mgL Y t).length<=1099511627776:=(by omega);have hd:Below W.heap.size W wr.drew:=hb.drew;have hX16:X.length<=1099511627776:=(by have:=HXl.out;omega);clear hg hY hYl hGl
     go_wp2
     go_region_with (first
      |(go_at_call 57;refine (HSM.out _ hd).mono ?_;rintro e w3 ⟨Ax,cx,rfl,hox,hb3⟩;have h03:=step hd hb3;obtain ⟨y0,y1,y2⟩:=HX.out _ h03)
      |(go_at_call 56;refine (hNA.out _ _ _ _ _ h03 hox.rd (Nat.le_refl _) hX16).mono ?_;rintro e w4 ⟨A4,n4,c4,rfl,ho4,hb4⟩))
     all_goals
      obtain rfl:=ho4.len;have h04:=step h03 hb4;have h4d:Below W.heap.size W w4.drew:=h04.drew;obtain ⟨u0,u1,u2⟩:=HX.out _ h04;have ho4d:=ho4.rd.below (Below.refl _ w4).drew
      go_wp2
      go_region_with (first
       |(go_at_call 59;refine (HMG.out _ _ _ _ _ _ ho4d (Nat.le_refl _) hY16).mono ?_;rintro e w5 ⟨A5,c5,rfl,ho5,hb5⟩;have h05:=step h4d hb5;obtain ⟨p0,p1,p2⟩:=HX.out _ h05)
       |(go_at_call 58;refine (specGridFilled _ _ _ _ _ _ _ ho5.rd hg16).mono ?_;rintro e w6 ⟨rfl,rfl⟩))
      all_goals
       have h6B:=step h05 (Below.refl _ _);cases hsb:sbB t n gi rs (M:Nat)
       ·have hcq:(gf (mgL Y t) t==(Y.length:Int))=false:=(by rw [hYc.out,hsb])
        go_wp2
        go_roundw
        case rel=>exact ⟨M+1,by omega,by omega,by go_num,by rw [HG.out,hsb,if_neg (by simp),show 5-(M+1)=4-M by omega],h6B⟩
        case measure=>simp [intOf];omega
       ·have hcq:(gf (mgL Y t) t==(Y.length:Int))=true:=(by rw [hYc.out,hsb])
        go_wp2
        go_ret
        exact ⟨by rw [HL.out,HG.out,hsb,if_pos rfl];rfl,HB.out _ h6B⟩
    ·obtain rfl:M=5:=by omega
     have HG:=Lib.hid (show gpF t n gi rs 4 1=5 by rw [hg];rfl);clear hg
     go_wp2
     go_ret
     exact ⟨by rw [HL.out,HG.out];rfl,HB.out _ hb⟩
  ·have HL:=Lib.hid (show gpI t n gi rs=0 by
    unfold gpI;rw [if_pos hv,<-hLA,<-hq,if_neg h1])
   have hne:((q:Int) != 1)=true:=(by rw [bne_iff_ne];omega);have HQ:=Lib.hid hq;clear hW hx0 hb0 hs0 hp hs hLA hq
   go_enter Tryz.func15,Tryz.ntmps15
   go_wp2_with fail
   rw [HW.out]
   go_wp2_with (first
    |(go_at_call 22;refine HP.out.mono ?_;rintro e w1 ⟨rfl,hb1⟩;rw [hv];obtain ⟨y0,y1,y2⟩:=HX.out _ hb1)
    |(go_at_call 55;(refine (HA.out _ hb1).mono ?_);rintro e w2 ⟨P,v,rfl,hrows,hb2⟩;obtain ⟨A1,c1,vs,rfl,_⟩:=hrows;rw [<- HQ.out];have h02:=step hb1 hb2))
   go_ret
   exact ⟨by rw [HL.out];rfl,HB.out _ h02⟩
set_option maxHeartbeats 4000000 in
theorem draw_DrawGradePuzzle (A:Option Addr) (n c:Nat) (bs:List Int) (w:World) (h:Code_ w A n c bs):Calls Tryz.prog 13 #[.slice A n c] w (DrawnP w):=by
 have Hone:=Lib.hid puz_one;have Hi:=Lib.hid puz_info;have h1:=h.1.alloc_ (.cells #[.int .i64 0,.slice none 0 0,.slice none 0 0] 26);obtain ⟨w0,hW⟩:∃ w0,w0=w.alloc (.cells #[.int .i64 0,.slice none 0 0,.slice none 0 0] 26):=⟨_,rfl⟩;rw [<- hW] at h1
 have hRw:w.heap.size<w0.heap.size:=by rw [hW];simp
 have hb00:Below w.heap.size w w0:=by rw [hW];exact (Below.refl _ _).alloc (Nat.le_refl _) _
 have hR0:w0.heap[w.heap.size]? =some (.cells #[.int .i64 0,.slice none 0 0,.slice none 0 0] 26):=by rw [hW];exact heap_alloc_new w _
 have HW:=Lib.hid hW;clear hW
 go_enter Tryz.func13,Tryz.ntmps13
 go_wp2_with fail
 rw [<- HW.out];refine (specOpen A c n bs w0 h1 h.2.1 h.2.2).mono ?_;rintro e w1 ⟨rfl,hr,hb⟩;have hR1:=(hb.block w.heap.size hRw).trans hR0;have hG1:=hr.lt
 go_wp2_with fail
 refine (l20Puzzle_any w0.heap.size w0.heap.size 0 12 w1 hr (Nat.le_refl _) (by omega) (by omega)).mono ?_;rintro e w2 ⟨s,A1,n1,c1,gi,A2,nr,c2,rs,rfl,s2,s4,hrd,hn16,hlo,hR,hl,hnr,hr2,hg,_⟩;have h12:=hg.size;have hR4:=(hg.block w.heap.size (Nat.lt_of_lt_of_le hRw hb.size) (fun e=>by injection e with e;omega)).trans hR1;have hb17:Below w.heap.size w w2:=(hb00.trans (hb.mono hb00.size)).trans ⟨hg.os,hg.tape,hg.output,hg.size,fun j hj=>hg.block j (Nat.lt_of_lt_of_le hj (Nat.le_trans hb00.size hb.size)) (fun e=>by injection e with e;omega)⟩
 have hf:DrawnP w (.returned (.agg #[.int .i64 s,.slice A1 n1 c1,.slice A2 nr c2])) (w2.setRow w.heap.size #[.int .i64 s,.slice A1 n1 c1,.slice A2 nr c2]):=by
  have hgr:w2.grownBy (w2.setRow w.heap.size #[.int .i64 s,.slice A1 n1 c1,.slice A2 nr c2]) (some w.heap.size):=grown_row;have hsz:=hgr.size;exact ⟨s,A1,n1,c1,gi,A2,nr,c2,rs,rfl,s2,s4,(rd_keepV hrd (Nat.le_refl _) hgr (fun b off e=>by have:=hlo b off e;omega)).more hsz,hn16,(hR.setX hR4).mono (by omega),hl,hnr,setRow_below5 hb17 (Nat.le_refl _)⟩
 clear hrd hR hlo hr hr2 hg
 go_wp2_with (refine wpList_store_row rfl 26 _ _ rfl w.heap.size #[.int .i64 s,.slice A1 n1 c1,.slice A2 nr c2] rfl rfl 26 #[.int .i64 0,.slice none 0 0,.slice none 0 0] hR4 (Hi.out _ _ _ _ _ _ _) rfl (Hone.out _ _ _ _ _ _ _) ?_)
 exact bodyPost_ret (v:=.agg #[.int .i64 s,.slice A1 n1 c1,.slice A2 nr c2]) (results_cell_row (by rfl) _ _ w.heap.size 26 _ (0,0) _ rfl (setRow_heap _ _ _ _ _ _ hR4) Tryz.underlying26 rfl (Hi.out _ _ _ _ _ _ _)) rfl hf
theorem na_more {s:Int} {gi m:List Int} {rs:List RuleM} {g most:Nat} (hv:pvB s gi rs=true) (hg:g<=most) (h4:most<=4) (hm:mvd m s=true):Wi (naE s gi rs most m 0).1 (naE s gi rs g m 0).1:=by
 obtain ⟨L,hL⟩:=roE_more (most:=most) hv hg h4 (sumTo m m.length+1) m hm (by omega);obtain ⟨hq,hr,_⟩:=roE_split (most:=most) hv h4 _ m hm hL
 have e1:(naE s gi rs g m 0).1=lastO m (roE s gi rs g m):=by rw [naE_ro]
 have e2:(naE s gi rs most m 0).1=(naE s gi rs most (lastO m (roE s gi rs g m)) 0).1:=by
  rw [naE_ro,naE_ro,hr,hL,lastO_app]
 rw [e1,e2];exact (na_wi hv h4 hq).1
set_option maxHeartbeats 8000000 in
theorem narrowMore_walk (A:Option Addr) (c n:Nat) (bs:List Int) (w:World) (h:Code_ w A n c bs) (hT:Tz w):
 Calls Tryz.prog 3 #[.slice A n c] w fun e w'=>e=.returned (.bool true)/\Below w.heap.size w w':=by
 by_cases hn:n<=1048576
 ·go_enter Tryz.func3,Tryz.ntmps3
  go_wp2_with fail
  refine (draw_DrawGradePuzzle _ _ _ _ _ h).mono ?_;rintro e w1 ⟨s,A1,n1,c1,gi,A2,nr,c2,rs,rfl,s2,s4,hrd,hn16,hR,hl,hnr,hb1⟩;have hx0:=pbox_new w1 s A1 n1 c1 A2 nr c2 26;have hbA:Below w1.heap.size w1 (w1.alloc (.cells #[.int .i64 s,.slice A1 n1 c1,.slice A2 nr c2] 26)):=(Below.refl _ _).alloc (Nat.le_refl _) _;have hpc0:PGc w1 s A1 n1 c1 w1.heap.size gi A2 nr c2 w1.heap.size rs:=⟨hrd,Nat.le_refl _,by omega,hR.rdc hl,Nat.le_refl _,by omega⟩;have hpcA:=hpc0.below hbA
  have hsA:w1.heap.size<(w1.alloc (.cells #[.int .i64 s,.slice A1 n1 c1,.slice A2 nr c2] 26)).heap.size:=by simp
  obtain ⟨W,hW⟩:∃ W,w1.alloc (.cells #[.int .i64 s,.slice A1 n1 c1,.slice A2 nr c2] 26)=W:=⟨_,rfl⟩;rw [hW] at hx0 hbA hpcA hsA;have hb0W:Below w.heap.size w W:=step hb1 hbA
  have hsb: -9223372036854775808<=s/\s<=9223372036854775807:=by omega
  have HX:=Lib.hid (fun w' (hb:Below W.heap.size W w')=>hx0.below (by omega:w1.heap.size<W.heap.size) hb);have HB:=Lib.hid (fun w' (hb:Below W.heap.size W w')=>step hb0W hb);have HTz:=Lib.hid (fun w' (hb:Below W.heap.size W w')=>hT.below hT.lt (step hb0W hb));obtain ⟨gp,hgp⟩:∃ gp,gp=gpI s n1 gi rs:=⟨_,rfl⟩
  have HGI:=Lib.hid (fun w' (hb:Below W.heap.size W w')=>by
   have:=implGradePuzzle _ _ _ _ _ _ _ _ _ _ _ _ (hpcA.below hb) (HTz.out _ hb);rw [<- hgp] at this
   exact this)
  have HGS:=Lib.hid (fun w' (hb:Below W.heap.size W w')=>by
   have:=specGradePuzzle _ _ _ _ _ _ _ _ _ _ _ _ (hpcA.below hb).rd;rw [<- hgp] at this
   exact this)
  obtain ⟨X,hX⟩:∃ X,X=startL s gi rs n1:=⟨_,rfl⟩;have hgl:=hrd.1
  have hX16:X.length<=16:=by
   rw [hX];unfold startL
   split
   ·rw [mapTo_length];exact hn16
   ·simp
  have HI0:=Lib.hid (fun w' (hb:Below W.heap.size W w')=>by
   have:=implStartMasks _ _ _ _ _ _ _ _ _ _ _ _ (hpcA.below hb);rw [<- hX] at this
   exact this)
  obtain ⟨FL,hFL⟩:∃ FL,FL=sfL s n1 gi rs:=⟨_,rfl⟩;obtain ⟨bb,hbb⟩:∃ bb,bb=sfB s n1 gi rs:=⟨_,rfl⟩
  have HSF:=Lib.hid (fun w' (hb:Below W.heap.size W w')=>by
   have:=implSolveFirst _ _ _ _ _ _ _ _ _ _ _ _ (hpcA.below hb) (HTz.out _ hb);rw [<- hFL,<-hbb] at this
   exact this)
  have HI:=Lib.hid (fun (A9:Option Addr) (c9 n9 B9:Nat) (o:List Int) (M:Int) (w':World) (hb:Below W.heap.size W w') (hr:Rd w' B9 A9 n9 o) (hB:B9<=w'.heap.size) (h64:B64 o) (h9:n9<=1099511627776)=>implNarrowAll _ _ _ _ _ _ _ _ _ _ _ A9 c9 n9 B9 o M w' (hpcA.below hb) hr hB h64 h9 (HTz.out _ hb) hsb);have HW:=Lib.hid hW;obtain ⟨z0,z1,z2⟩:=id hx0
  have hX17:X.length<=1099511627776:=by omega
  have hne:(gp != gp)=false:=by simp
  have hdr:Below W.heap.size W W.drew:=(Below.refl _ _).drew;clear hW hpc0 hpcA hbA hx0 hR hrd hgp;cases bb
  ·clear hbb hFL hX
   go_wp2_with fail
   rw [HW.out]
   go_region_with (first
    |(go_at_call 14;refine (HGI.out _ hdr).mono ?_;rintro e w2 ⟨rfl,hb2⟩;have h02:=step hdr hb2;obtain ⟨y0,y1,y2⟩:=HX.out _ h02)
    |(go_at_call 15;refine (HGS.out _ h02).mono ?_;rintro e w3 ⟨rfl,hb3⟩;have h03:=step h02 hb3;obtain ⟨v0,v1,v2⟩:=HX.out _ h03))
   all_goals
    go_wp2_with (first
     |(go_at_call 16;refine (HSF.out _ h03).mono ?_;rintro e w5 ⟨A5,m5,c5,rfl,hm5,ho5,hb5⟩;have h25:=step h03 hb5)
     |(go_at_call 17;(with_reducible refine (alive_any _).mono ?_);rintro e w6 ⟨rfl,hb6⟩))
    go_ret
    exact ⟨rfl,HB.out _ (step h25 hb6)⟩
  ·have hv:=sfB_pv hbb.symm;obtain ⟨t,rfl,hs,hnn,_,hok⟩:=pv_grid hv hgl;have hnn2:n1=t*t:=(by simp at hs;rcases hs with rfl|rfl|rfl<;>omega);obtain ⟨hXl,hXv⟩:=start_mvdM (rs:=rs) hgl hv;have hps:=sf_psM hgl hv hnn2 hbb.symm;have hsh:=start_have hs hgl hps;rw [<- hX] at hXl hXv hsh;rw [<- hFL] at hps hsh;have hX64:=b64_mvd hXv
   have eN:∀ M:Nat,1<=M->M<=4->naL t gi rs X (M:Nat)=(naE t gi rs M X 0).1:=fun M h1 h4=>by
    unfold naL;rw [if_pos (by simp [hv,hXv,inr];omega),Int.toNat_natCast]
   have e1:naL t gi rs X 1=(naE t gi rs 1 X 0).1:=eN 1 (by omega) (by omega);have e2:naL t gi rs X 2=(naE t gi rs 2 X 0).1:=eN 2 (by omega) (by omega);have e4:naL t gi rs X 4=(naE t gi rs 4 X 0).1:=eN 4 (by omega) (by omega);obtain ⟨a4w,a4v,a4l⟩:=na_wi (r:=0) (most:=4) (rs:=rs) (gi:=gi) hv (by omega) hXv;obtain ⟨_,a2v,a2l⟩:=na_wi (r:=0) (most:=2) (rs:=rs) (gi:=gi) hv (by omega) hXv;obtain ⟨_,a1v,a1l⟩:=na_wi (r:=0) (most:=1) (rs:=rs) (gi:=gi) hv (by omega) hXv;have h4h:=na_keeps (r:=0) (most:=4) (by omega) hXv hps hsh;have h2h:=na_keeps (r:=0) (most:=2) (by omega) hXv hps hsh;have hw21:=na_more (g:=1) (most:=2) (rs:=rs) (gi:=gi) hv (by omega) (by omega) hXv;rw [<- e4] at a4w a4v a4l h4h;rw [<- e2] at a2v a2l h2h hw21;rw [<- e1] at a1v a1l hw21;obtain ⟨P,hP⟩:∃ P,P=naL t gi rs X 2:=⟨_,rfl⟩;obtain ⟨Q,hQ⟩:∃ Q,Q=naL t gi rs X 4:=⟨_,rfl⟩;obtain ⟨R,hR⟩:∃ R,R=naL t gi rs X 1:=⟨_,rfl⟩;rw [<- hQ] at a4w a4v a4l h4h;rw [<- hP] at a2v a2l h2h hw21;rw [<- hR] at a1v a1l hw21
   have HI2:=Lib.hid (fun (A9:Option Addr) (c9 n9 B9:Nat) (w':World) (hb:Below W.heap.size W w') (hr:Rd w' B9 A9 n9 X) (hB:B9<=w'.heap.size) (h9:n9<=1099511627776)=>by
    have:=HI.out A9 c9 n9 B9 X 2 w' hb hr hB hX64 h9;rw [<- hP] at this
    exact this)
   have HI4:=Lib.hid (fun (A9:Option Addr) (c9 n9 B9:Nat) (w':World) (hb:Below W.heap.size W w') (hr:Rd w' B9 A9 n9 X) (hB:B9<=w'.heap.size) (h9:n9<=1099511627776)=>by
    have:=HI.out A9 c9 n9 B9 X 4 w' hb hr hB hX64 h9;rw [<- hQ] at this
    exact this)
   have HI1:=Lib.hid (fun (A9:Option Addr) (c9 n9 B9:Nat) (w':World) (hb:Below W.heap.size W w') (hr:Rd w' B9 A9 n9 X) (hB:B9<=w'.heap.size) (h9:n9<=1099511627776)=>by
    have:=HI.out A9 c9 n9 B9 X 1 w' hb hr hB hX64 h9;rw [<- hR] at this
    exact this)
   have p64:=b64_mvd a2v;have q64:=b64_mvd a4v;have hPl:P.length<=1099511627776:=(by omega);have hQl:Q.length<=1099511627776:=(by omega);have HW1:Hid (Wi P R):=Lib.hid hw21;have HW2:Hid (Wi Q X):=Lib.hid a4w;have HM4:=Lib.hid h4h;have HM2:=Lib.hid h2h;have ePR:P.length=R.length:=(by rw [a2l,a1l]);have eQX:Q.length=X.length:=a4l;have EPR:=Lib.hid ePR;have EQX:=Lib.hid eQX;clear hP hQ hR e1 e2 e4 eN a4v a4l a2v a2l a1v a1l h4h h2h hw21 a4w hXl hsh hps hXv hok hnn hnn2 hbb hFL hX hv ePR eQX hs hgl
   go_wp2_with fail
   rw [HW.out]
   go_region_with (first
    |(go_at_call 14;refine (HGI.out _ hdr).mono ?_;rintro e w2 ⟨rfl,hb2⟩;have h02:=step hdr hb2;obtain ⟨y0,y1,y2⟩:=HX.out _ h02)
    |(go_at_call 15;refine (HGS.out _ h02).mono ?_;rintro e w3 ⟨rfl,hb3⟩;have h03:=step h02 hb3;obtain ⟨v0,v1,v2⟩:=HX.out _ h03))
   all_goals
    go_wp2_with (first
     |(go_at_call 16;refine (HSF.out _ h03).mono ?_;rintro e w5 ⟨A5,m5,c5,rfl,hm5,ho5,hb5⟩;obtain rfl:=hm5 (by trivial);clear hm5;have h05:=step h03 hb5;obtain ⟨u0,u1,u2⟩:=HX.out _ h05)
     |(go_at_call 18;refine (HI0.out _ h05).mono ?_;rintro e w6 ⟨A6,c6,rfl,ho6,hb6⟩;have h06:=step h05 hb6;obtain ⟨u3,u4,u5⟩:=HX.out _ h06)
     |(go_at_call 19;(with_reducible refine (HI2.out _ _ _ _ _ h06 ho6.rd (Nat.le_refl _) hX17).mono ?_);rintro e w7 ⟨A7,n7,c7,rfl,ho7,hb7⟩;obtain rfl:=ho7.len;have h07:=step h06 hb7;have hB7:=hb7.size;have ho67:=ho6.rd.below hb7;obtain ⟨u6,u7,u8⟩:=HX.out _ h07)
     |(go_at_call 19;(with_reducible refine (HI4.out _ _ _ _ _ h07 ho67 hB7 hX17).mono ?_);rintro e w8 ⟨A8,n8,c8,rfl,ho8,hb8⟩;obtain rfl:=ho8.len;have h08:=step h07 hb8;have hB8:=Nat.le_trans hB7 hb8.size;have ho68:=ho67.below (hb8.mono hB7);obtain ⟨p0,p1,p2⟩:=HX.out _ h08)
     |(go_at_call 19;(with_reducible refine (HI1.out _ _ _ _ _ h08 ho68 hB8 hX17).mono ?_);rintro e w9 ⟨A9,n9,c9,rfl,ho9,hb9⟩;obtain rfl:=ho9.len;have h09:=step h08 hb9))
    have hB9:=Nat.le_trans hB8 hb9.size;have HRX:=Lib.hid (fun w' (hb:Below w9.heap.size w9 w')=>(ho68.below (hb9.mono hB8)).below (hb.mono hB9));have HRP:=Lib.hid (fun w' (hb:Below w9.heap.size w9 w')=>(⟨((ho7.rd.below hb8).below (hb9.mono hb8.size)).below (hb.mono (Nat.le_trans hb8.size hb9.size)),Nat.le_trans (Nat.le_trans hb8.size hb9.size) hb.size⟩:Rd w' w7.heap.size A7 P.length P/\w7.heap.size<=w'.heap.size));have HRQ:=Lib.hid (fun w' (hb:Below w9.heap.size w9 w')=>(⟨(ho8.rd.below hb9).below (hb.mono hb9.size),Nat.le_trans hb9.size hb.size⟩:Rd w' w8.heap.size A8 Q.length Q/\w8.heap.size<=w'.heap.size))
    have HRR:=Lib.hid (fun w' (hb:Below w9.heap.size w9 w')=>ho9.rd.below hb);have H59:Below w5.heap.size w5 w9:=step hb6 (step hb7 (step hb8 hb9));have HRF:=Lib.hid (fun w' (hb:Below w9.heap.size w9 w')=>(⟨(ho5.rd.below H59).below (hb.mono H59.size),Nat.le_trans H59.size hb.size⟩:Rd w' w5.heap.size A5 m5 FL/\w5.heap.size<=w'.heap.size));have H09:=Lib.hid h09
    have HM4':=Lib.hid (fun w' (hb:Below w9.heap.size w9 w')=>by
     have:=implMasksHave A8 c8 Q.length w8.heap.size Q (t:Nat) A5 c5 m5 w5.heap.size FL w' (HRQ.out _ hb).1 q64 (HRQ.out _ hb).2 hQl (HRF.out _ hb).1 (HRF.out _ hb).2 (by omega) hsb;rw [HM4.out] at this
     exact this)
    have HM2':=Lib.hid (fun w' (hb:Below w9.heap.size w9 w')=>by
     have:=implMasksHave A7 c7 P.length w7.heap.size P (t:Nat) A5 c5 m5 w5.heap.size FL w' (HRP.out _ hb).1 p64 (HRP.out _ hb).2 hPl (HRF.out _ hb).1 (HRF.out _ hb).2 (by omega) hsb;rw [HM2.out] at this
     exact this)
    have HWA:=Lib.hid (within_any A7 A9 c7 c9 P.length R.length _ _ P R w9 (HRP.out _ (Below.refl _ _)).1 (HRR.out _ (Below.refl _ _)) EPR.out HW1 hPl);have HWB:=Lib.hid (fun w' (hb:Below w9.heap.size w9 w')=>within_any A8 A6 c8 c6 Q.length X.length _ _ Q X w' (HRQ.out _ hb).1 (HRX.out _ hb) EQX.out HW2 hQl);clear ho5 ho6 ho67 ho68 ho7 ho8 ho9 hb2 hb3 hb5 hb6 hb7 hb8 hb9 h02 h03 h05 h06 h07 h08 h09 hB7 hB8 hB9 H59
    go_wp2_with (first
     |(go_at_call 20;(with_reducible refine HWA.out.mono ?_);rintro e wa ⟨rfl,hba⟩)
     |(go_at_call 20;(with_reducible refine (HWB.out _ hba).mono ?_);rintro e wb ⟨rfl,hbb'⟩;have hab:=step hba hbb';obtain ⟨r0,r1,r2⟩:=HX.out _ (step H09.out hab))
     |(go_at_call 21;(with_reducible refine (HM4'.out _ hab).mono ?_);rintro e wc ⟨rfl,hbc⟩;have hac:=step hab hbc;obtain ⟨q0,q1,q2⟩:=HX.out _ (step H09.out hac))
     |(go_at_call 21;(with_reducible refine (HM2'.out _ hac).mono ?_);rintro e wd ⟨rfl,hbd⟩;have had:=step hac hbd))
    go_ret
    exact ⟨by trivial,HB.out _ (step H09.out had)⟩
 ·go_enter Tryz.func3,Tryz.ntmps3
  go_wp2
  go_ret
  exact ⟨rfl,Below.refl _ _⟩
end Go.Proofs.YtlnmioijgclndaaGreatDoor
