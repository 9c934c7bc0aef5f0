import Derived.Test.YtkeoflnmbcdmfaaGreatDoorR4W
set_option maxRecDepth 8000
namespace Go.Proofs.YtkeoflnmbcdmfaaGreatDoor
open Go.ChangeShapes Go.WideShapes Go.ChangeAt Go.RowKit
theorem below_d1 (w:World) (o:Obj):Below w.heap.size w (w.drew.alloc o):=((Below.refl _ _).drew).alloc (Nat.le_refl _) o
theorem below_d2 (w:World) (o o':Obj):Below w.heap.size w ((w.drew.alloc o).alloc o'):=(below_d1 w o).alloc (below_d1 w o).size o'
theorem rdV_new (w:World) (x:Int):Rd (w.alloc (.cells #[.int .i64 x] 3)) (w.heap.size+1) (some ⟨w.heap.size,0,none⟩) 1 [x]:=
 ⟨rfl,fun _=>⟨w.heap.size,0,rfl,Nat.lt_succ_self _,fun k hk=>by
   obtain rfl:k=0:=by omega
   exact cell_of_row _ _ 0 _ _ (0,0) (heap_alloc_new w _)⟩⟩
theorem made0_1 (w:World) (o:Obj):Ow ((w.alloc o).alloc (.cells #[] 3)) w.heap.size (some ⟨w.heap.size+1,0,none⟩) 0 0 []:=by
 have:=Ow.made0 (w.alloc o) w.heap.size (by simp);rwa [World.size_alloc] at this
theorem rdV_ii {w w1:World} {x:Int} (hg:((w.alloc (.cells #[] 3)).alloc (.cells #[.int .i64 x] 3)).grownBy w1 (Value.slice (some ⟨w.heap.size,0,none⟩) 0 0).ownBlock):Rd w1 w1.heap.size (some ⟨w.heap.size+1,0,none⟩) 1 [x]:=
 ⟨rfl,fun _=>⟨w.heap.size+1,0,rfl,by have:=hg.size;simp at this ⊢;omega,fun k hk=>by
   obtain rfl:k=0:=by omega
   refine (hg.cell_far ⟨w.heap.size+1,0,none⟩ (by simp) (by simp [Value.ownBlock])).trans ?_;have:=cell_of_row _ _ 0 _ _ (0,0) (heap_alloc_new (w.alloc (.cells #[] 3)) (.cells #[.int .i64 x] 3))
   rwa [World.size_alloc] at this⟩⟩
theorem rdV_iii {w w1:World} {x:Int} (hg:((w.alloc (.cells #[.int .i64 x] 3)).alloc (.cells #[] 3)).grownBy w1 (Value.slice (some ⟨w.heap.size+1,0,none⟩) 0 0).ownBlock):Rd w1 w1.heap.size (some ⟨w.heap.size,0,none⟩) 1 [x]:=
 ⟨rfl,fun _=>⟨w.heap.size,0,rfl,by have:=hg.size;simp at this ⊢;omega,fun k hk=>by
   obtain rfl:k=0:=by omega
   refine (hg.cell_far ⟨w.heap.size,0,none⟩ (by simp;omega) (by simp [Value.ownBlock])).trans ?_;refine (cell_of_row _ _ 0 #[.int .i64 x] 3 (0,0) ?_);rw [heap_alloc_old _ _ (by simp)]
   exact heap_alloc_new _ _⟩⟩
theorem own_ne {w:World} {lo G:Nat} {A:Option Addr} {n c:Nat} {xs:List Int} (h:Ow w lo A (n+1) c xs) (hG:G<lo):∀ b off,A=some ⟨b,off,none⟩->b≠G:=fun b off e=>by
 obtain ⟨g,e2,hlo,_⟩:=h.form (Nat.succ_pos n);rw [e] at e2;cases e2;omega
theorem below_push {B:Nat} {w0 w w':World} {lo:Nat} {A:Option Addr} {n c:Nat} {xs:List Int} (hb:Below B w0 w) (hown:Ow w lo A n c xs) (hlo:B<=lo) (hB:B<=w.heap.size) (hg:w.grownBy w' (Value.slice A n c).ownBlock):Below B w0 w':=
 hb.grown hg hB (fun k hk=>Nat.le_trans hlo (hown.own_lo k hk))
set_option maxHeartbeats 2000000 in
theorem specWays (k v:Int) (xs ms:List Int) (A:Option Addr) (c n Bx:Nat) (Am:Option Addr) (cm nm Bm:Nat) (hk:k=1\/k=2\/k=3\/2<=n) (hn4:n<=4) (hxc:Hid (∀ i,i<n->0<=nth xs i/\nth xs i<nm)) (hms:Hid (B64 ms)) (lo G cF:Nat)
 (hneA:∀ b off,A=some ⟨b,off,none⟩->b≠G) (hneM:∀ b off,Am=some ⟨b,off,none⟩->b≠G) (d:Nat):∀ (A2:Option Addr) (n2 c2 B2:Nat) (vs:List Int) (F:List Nat) (w:World),
 n2+d=n->Rd w Bx A n xs->Bx<=w.heap.size->Rd w Bm Am nm ms->Bm<=w.heap.size->Rd w B2 A2 n2 vs->B2<=w.heap.size->(∀ b off,A2=some ⟨b,off,none⟩->b≠G)->Hid (small4 vs n2)->Ow w lo (some ⟨G,0,none⟩) n cF (nats F)->F.length=n->Hid (lt32 F)->G<w.heap.size->
 Calls Tryz.prog 190 #[.agg #[.int .i64 k,.slice A n c,.int .i64 v],.slice Am nm cm,.slice A2 n2 c2,.slice (some ⟨G,0,none⟩) n cF] w (WaysPost w lo G n cF (waysF k v xs ms d vs F)):=by
 induction d with
 |zero=>
  intro A2 n2 c2 B2 vs F w hd hx hBx hm hBm hr2 hB2 hne2 hv hF hlF h32 hG
  obtain rfl:n2=n:=by omega
  exact ways_end k v xs ms A c n2 Am cm nm hk hn4 lo G cF A2 c2 B2 vs F w hr2 hB2 hne2 hv hF hlF h32
 |succ d ih=>
  intro A2 n2 c2 B2 vs F w hd hx hBx hm hBm hr2 hB2 hne2 hv hF hlF h32 hG;have Ih:=Lib.hid ih;clear ih;have hlen2:=Lib.hid hr2.1;have hx0:=rbox_new w k A n c v 88;have hb0:Below w.heap.size w (w.alloc (.cells #[.int .i64 k,.slice A n c,.int .i64 v] 88)):=(Below.refl _ _).alloc (Nat.le_refl _) _
  have hnn:((n2:Int)==(n:Int))=false:=by simp only [beq_eq_false_iff_ne];omega
  obtain ⟨q0,q1⟩:=hxc.out n2 (by omega);obtain ⟨q,hq⟩:=Int.eq_ofNat_of_zero_le q0;obtain ⟨bx,ox,ex,hbx,hcx⟩:=(hx.below (hb0.mono hBx)).at_ (show n2<n by omega);rw [hq] at hcx;obtain ⟨bm,om,em,hbm,hcm⟩:=(hm.below (hb0.mono hBm)).at_ (show q<nm by omega);subst ex;subst em;obtain ⟨m,hmm⟩:∃ m,m=nth ms q:=⟨_,rfl⟩;rw [<- hmm] at hcm;have Hm64:=Lib.hid (show -9223372036854775808<=m/\m<=9223372036854775807 by rw [hmm];exact hms.out q)
  have HL:=Lib.hid (show waysF k v xs ms (d+1) vs F=foldN (fun x G=>waysF k v xs ms d (vs++[x]) G) (maskVals m) (maskVals m).length F by
   simp only [waysF,hlen2.out,hq,Int.toNat_natCast,<-hmm])
  have q1':(q:Int)<(nm:Int):=by omega
  have hlm:=maskVals_length m;have Hsm:=Lib.hid (maskVals_small m);clear hmm q0 q1 hq
  go_enter Tryz.func190,Tryz.ntmps190
  go_wp2_with (go_at_call 129;refine (specMaskValues m _ Hm64.out).mono ?_;rintro e w1 ⟨AL,cL,rfl,hoL,hb1⟩)
  obtain ⟨L,hL⟩:∃ L,L=maskVals m:=⟨_,rfl⟩;rw [<- hL] at HL hlm Hsm hoL;rw [<- hL];clear hL;have hB1:=step hb0 hb1;have hF1:Ow w1 lo (some ⟨G,0,none⟩) n cF (nats F):=hF.below hB1;have hx1:=hx0.below (show w.heap.size<(w.alloc (.cells #[.int .i64 k,.slice (some ⟨bx,ox,none⟩) n c,.int .i64 v] 88)).heap.size by simp) hb1;have hGw:=hB1.size
  go_loopw [11] (fun i wr=>∃ t:Nat,t<=L.length/\i=.int .i64 t/\Hid (Ow wr lo (some ⟨G,0,none⟩) n cF (nats (foldN (fun x G=>waysF k v xs ms d (vs++[x]) G) L t F)))/\w1.grownBy wr (some G)) (fun i _=>L.length-(intOf i).toNat)
  case atStart=>exact ⟨0,Nat.zero_le _,rfl,Lib.hid hF1,World.grownBy.refl _ _⟩
  case round=>
   obtain ⟨t,ht,rfl,hFt,hgt⟩:=hrel
   by_cases hlt:t<L.length
   ·obtain ⟨bl,hAL,hlo,_⟩:=hoL.form (show 0<L.length by omega);subst hAL;have hlG:bl≠G:=(by rw [World.size_alloc] at hlo;omega);have hwG:w.heap.size≠G:=(by omega);obtain ⟨hcl,_⟩:=hoL.cell hlt;have hblw:bl<w1.heap.size:=cell_lt hcl;obtain ⟨y1,y4⟩:=Hsm.out t hlt;obtain ⟨x,hxv⟩:=Int.eq_ofNat_of_zero_le (show 0<=nth L t by omega);rw [hxv] at hcl;have hwr:=hgt.size;have hww:w.heap.size<w1.heap.size:=(by have:=hx1.1;exact cell_lt this)
    have far:∀ (b i:Nat),b<w1.heap.size->b≠G->wr.cell? ⟨b,i,none⟩=w1.cell? ⟨b,i,none⟩:=fun b i hb hne=>hgt.cell_far ⟨b,i,none⟩ hb (fun e=>hne (by injection e))
    have s0:=(far w.heap.size 0 hww hwG).trans hx1.1;have s1:=(far w.heap.size 1 hww hwG).trans hx1.2.1;have s2:=(far w.heap.size 2 hww hwG).trans hx1.2.2;have s3:=(far bl t hblw hlG).trans hcl
    have HS:Hid (∀ w',Below wr.heap.size wr w'->w'.cell? ⟨w.heap.size,0,none⟩=some (.int .i64 k)/\w'.cell? ⟨w.heap.size,1,none⟩=some (.slice (some ⟨bx,ox,none⟩) n c)/\w'.cell? ⟨w.heap.size,2,none⟩=some (.int .i64 v)/\w'.cell? ⟨bl,t,none⟩=some (.int .i64 x)):=
     Lib.hid (fun w' hb=>⟨(hb.cell (p:=⟨w.heap.size,0,none⟩) (show w.heap.size<_ by omega)).trans s0,(hb.cell (p:=⟨w.heap.size,1,none⟩) (show w.heap.size<_ by omega)).trans s1,(hb.cell (p:=⟨w.heap.size,2,none⟩) (show w.heap.size<_ by omega)).trans s2,(hb.cell (p:=⟨bl,t,none⟩) (show bl<_ by omega)).trans s3⟩)
    have HS2:Hid (∀ u u',Below wr.heap.size wr u->u.grownBy u' (some G)->u'.cell? ⟨w.heap.size,0,none⟩=some (.int .i64 k)/\u'.cell? ⟨w.heap.size,1,none⟩=some (.slice (some ⟨bx,ox,none⟩) n c)/\u'.cell? ⟨w.heap.size,2,none⟩=some (.int .i64 v)/\u'.cell? ⟨bl,t,none⟩=some (.int .i64 x)):=
     Lib.hid (fun u u' hb hg=>by
      obtain ⟨a0,a1,a2,a3⟩:=HS.out u hb;have hus:=hb.size
      have far2:∀ (b i:Nat),b<wr.heap.size->b≠G->u'.cell? ⟨b,i,none⟩=u.cell? ⟨b,i,none⟩:=fun b i hb hne=>hg.cell_far ⟨b,i,none⟩ (show b<_ by omega) (fun e=>hne (by injection e))
      exact ⟨(far2 _ _ (by omega) hwG).trans a0,(far2 _ _ (by omega) hwG).trans a1,(far2 _ _ (by omega) hwG).trans a2,(far2 _ _ (by omega) hlG).trans a3⟩)
    have hgw:w.grownBy wr (some G):=(grown_of_below hB1).trans hgt;have hgws:=hgw.size;have HR:Hid (∀ w',Below wr.heap.size wr w'->Rd w' B2 A2 n2 vs):=Lib.hid (fun w' hb=>(hr2.grown hgw hne2 hB2).below (hb.mono (by omega)));have HX:Hid (∀ w',Below wr.heap.size wr w'->Rd w' Bx (some ⟨bx,ox,none⟩) n xs):=Lib.hid (fun w' hb=>(hx.grown hgw hneA hBx).below (hb.mono (by omega)));have HM:Hid (∀ w',Below wr.heap.size wr w'->Rd w' Bm (some ⟨bm,om,none⟩) nm ms):=Lib.hid (fun w' hb=>(hm.grown hgw hneM hBm).below (hb.mono (by omega)));have HF:Hid (∀ w',Below wr.heap.size wr w'->Ow w' lo (some ⟨G,0,none⟩) n cF (nats (foldN (fun x G=>waysF k v xs ms d (vs++[x]) G) L t F))):=Lib.hid (fun w' hb=>hFt.out.below hb)
    have hinv:=foldN_inv (step:=fun x G=>waysF k v xs ms d (vs++[x]) G) (L:=L) (P:=fun F=>F.length=n/\lt32 F) (m:=L.length) (fun i hi F hF=>by
     have:=Hsm.out i hi
     exact waysF_inv k v xs ms n d _ F (by rw [List.length_append,List.length_singleton,hlen2.out];omega) (by rw [List.length_append,List.length_singleton,hlen2.out];exact small4_push hv.out hlen2.out (by omega) (by omega)) hF.1 hF.2) t ht F ⟨hlF,h32.out⟩
    obtain ⟨hi1,hi2⟩:=hinv;have Hi2:=Lib.hid hi2;have Hsp:=Lib.hid (small4_push hv.out hlen2.out (show (0:Int)<=(x:Int) by omega) (by omega:(x:Int)<=4));have Hfold:=Lib.hid (show foldN (fun x G=>waysF k v xs ms d (vs++[x]) G) L (t+1) F=waysF k v xs ms d (vs++[(x:Int)]) (foldN (fun x G=>waysF k v xs ms d (vs++[x]) G) L t F) by simp only [foldN,hxv]);obtain ⟨Ft,hFtt⟩:∃ Ft,Ft=foldN (fun x G=>waysF k v xs ms d (vs++[x]) G) L t F:=⟨_,rfl⟩;rw [<- hFtt] at HF hi1 Hi2 Hfold;have hGr:G<wr.heap.size:=(by omega);have hn22:n2<=4:=(by omega)
    have Hd:=Lib.hid (show (n2+1)+d=n by omega);clear hi2 far hFtt hcl hx1 hxv y1 y4 hoL hF1
    go_wp2
    go_region_held3 (fun w'=>w'.cell? ⟨w.heap.size,0,none⟩=some (.int .i64 k)/\w'.cell? ⟨w.heap.size,1,none⟩=some (.slice (some ⟨bx,ox,none⟩) n c)/\w'.cell? ⟨w.heap.size,2,none⟩=some (.int .i64 v)/\w'.cell? ⟨bl,t,none⟩=some (.int .i64 x))
     (first|go_keep|exact HS2.out _ _ hbB hg5|exact HS.out _ hbA|exact HS.out _ hbB|exact HS.out _ (below_d1 _ _)|exact HS.out _ (below_d2 _ _ _))
     ((first
       |(refine step_push_new (by rfl) _ _ (by rfl) wr.heap.size (some ⟨wr.heap.size,0,none⟩) A2 n2 c2 B2 vs (by rfl) (by rfl) (Ow.made0 _ _ (Nat.le_refl _)) (HR.out _ (below_d1 _ _)) (by omega) (below_d1 _ _).size ?_;intro A1 c1 w3 ho3 hg3 hl3;have hbA:Below wr.heap.size wr w3:=below_push (below_d1 _ _) (Ow.made0 _ _ (Nat.le_refl _)) (Nat.le_refl _) (below_d1 _ _).size hg3)
       |(refine step_push_new (by rfl) _ _ (by rfl) wr.heap.size (some ⟨wr.heap.size,0,none⟩) A2 n2 c2 B2 vs (by rfl) (by rfl) (World.ownsRow.alloc (Ow.made0 _ _ (Nat.le_refl _)) _) (HR.out _ (below_d2 _ _ _)) (by omega) (below_d2 _ _ _).size ?_;intro A1 c1 w3 ho3 hg3 hl3;have hbA:Below wr.heap.size wr w3:=below_push (below_d2 _ _ _) (World.ownsRow.alloc (Ow.made0 _ _ (Nat.le_refl _)) _) (Nat.le_refl _) (below_d2 _ _ _).size hg3)
       |(refine step_push_new (by rfl) _ _ (by rfl) wr.heap.size (some ⟨wr.heap.size+1,0,none⟩) A2 n2 c2 B2 vs (by rfl) (by rfl) (made0_1 _ _) (HR.out _ (below_d2 _ _ _)) (by omega) (below_d2 _ _ _).size ?_;intro A1 c1 w3 ho3 hg3 hl3;have hbA:Below wr.heap.size wr w3:=below_push (below_d2 _ _ _) (made0_1 _ _) (Nat.le_refl _) (below_d2 _ _ _).size hg3)
       |(refine step_push_all (by rfl) _ _ (by rfl) wr.heap.size A1 n2 c1 vs (some ⟨wr.heap.size+1,0,none⟩) 1 1 _ [(x:Int)] (by rfl) (by rfl) ho3 (rdV_ii (w:=wr.drew) hg3) (.inl (by omega)) (by omega) (by omega) hbA.size ?_;intro A3 c3 w4 ho4 hg4 hl4;have hbB:Below wr.heap.size wr w4:=below_push hbA ho3 (Nat.le_refl _) hbA.size hg4)
       |(refine step_push_all (by rfl) _ _ (by rfl) wr.heap.size A1 n2 c1 vs (some ⟨wr.heap.size,0,none⟩) 1 1 _ [(x:Int)] (by rfl) (by rfl) ho3 (rdV_iii (w:=wr.drew) hg3) (.inl (by omega)) (by omega) (by omega) hbA.size ?_;intro A3 c3 w4 ho4 hg4 hl4;have hbB:Below wr.heap.size wr w4:=below_push hbA ho3 (Nat.le_refl _) hbA.size hg4)
       |(refine step_push_all (by rfl) _ _ (by rfl) wr.heap.size A1 n2 c1 vs (some ⟨w3.heap.size,0,none⟩) 1 1 _ [(x:Int)] (by rfl) (by rfl) (World.ownsRow.alloc ho3 _) (rdV_new _ _) (.inl (by omega)) (by omega) (by omega) (hbA.alloc hbA.size _).size ?_;intro A3 c3 w4 ho4 hg4 hl4;have hbB:Below wr.heap.size wr w4:=below_push (hbA.alloc hbA.size _) (World.ownsRow.alloc ho3 _) (Nat.le_refl _) (hbA.alloc hbA.size _).size hg4)
       |(go_simp;go_at_call 190;refine (Ih.out A3 (n2+1) c3 _ (vs++[(x:Int)]) Ft _ Hd.out (HX.out _ hbB) (by have:=hbB.size;omega) (HM.out _ hbB) (by have:=hbB.size;omega) ho4.rd (Nat.le_refl _) ?hne Hsp (HF.out _ hbB) hi1 Hi2 (by have:=hbB.size;omega)).mono ?_;(case hne=>exact own_ne ho4 hGr);rintro e w5 ⟨rfl,ho5,hg5⟩)))
    all_goals
     go_wp2
     go_roundw
     case rel=>exact ⟨t+1,by omega,by go_num,by rw [Hfold.out];exact Lib.hid ho5,hgt.trans ((grown_of_below hbB).trans hg5)⟩
     case measure=>simp [intOf];omega
   ·obtain rfl:t=L.length:=by omega
    go_wp2
    (try simp only [Exit.inBlock,Exit.then])
    refine bodyPost_ret (results_none rfl _ _ _) rfl ?_;rw [HL.out];exact ⟨rfl,hFt.out,(grown_of_below hB1).trans hgt⟩
end Go.Proofs.YtkeoflnmbcdmfaaGreatDoor
