import Derived.Test.YtlnmioijgclndaaGreatDoorFAI10M
set_option maxRecDepth 8000
namespace Go.Proofs.YtlnmioijgclndaaGreatDoor
open Go.ChangeShapes Go.WideShapes Go.ChangeAt Go.RowKit
theorem OwnP.rdR {w:World} {lo n c1 g nr:Nat} {A1:Option Addr} {gi:List Int} {rs:List RuleM} (h:OwnP w lo A1 n c1 gi g nr rs) (hl:rs.length=nr):RdRs w w.heap.size (some ⟨g,0,none⟩) nr rs:=by
 obtain ⟨_,Q,h2,_⟩:=h;exact OwR.rd hl h2.rp.full
theorem psB_pv {s:Int} {gi L:List Int} {rs:List RuleM} (h:psB s gi rs L=true):pvB s gi rs=true:=by
 unfold psB fpB at h;simp only [Bool.and_eq_true] at h;exact h.1.1.1
theorem poS_no {s:Int} {n nr:Nat} {L:List Int} {rs:List RuleM} {w w':World} {e:Ending} (h:PoS false s n L nr rs w e w'):Below w.heap.size w w'/\e=.returned (.tuple #[.agg #[.int .i64 0,.slice none 0 0,.slice none 0 0],.bool false]):=by
 obtain ⟨h1,h2|h2⟩:=h
 ·exact ⟨h1,h2.2⟩
 ·exact absurd h2.1 (by simp)
theorem poS_yes {s:Int} {n nr:Nat} {L:List Int} {rs:List RuleM} {w w':World} {e:Ending} (h:PoS true s n L nr rs w e w'):Below w.heap.size w w'/\∃ A1 c1 A2 c2,e=.returned (.tuple #[.agg #[.int .i64 s,.slice A1 n c1,.slice A2 nr c2],.bool true])/\Rd w' w'.heap.size A1 n L/\RdRs w' w'.heap.size A2 nr rs:=by
 obtain ⟨h1,h2|h2⟩:=h
 ·exact absurd h2.1 (by simp)
 ·exact ⟨h1,h2.2⟩
theorem poI_no {s:Int} {n nr:Nat} {L:List Int} {rs:List RuleM} {w w':World} {e:Ending} (h:PoI false s n L nr rs w e w'):Below w.heap.size w w'/\e=.returned (.tuple #[.agg #[.int .i64 0,.slice none 0 0,.slice none 0 0],.bool false]):=by
 obtain ⟨h1,h2|h2⟩:=h
 ·exact ⟨h1,h2.2⟩
 ·exact absurd h2.1 (by simp)
theorem poI_yes {s:Int} {n nr:Nat} {L:List Int} {rs:List RuleM} {w w':World} {e:Ending} (h:PoI true s n L nr rs w e w'):Below w.heap.size w w'/\∃ A1 c1 g,e=.returned (.tuple #[.agg #[.int .i64 s,.slice A1 n c1,.slice (some ⟨g,0,none⟩) nr nr],.bool true])/\OwnP w' w.heap.size A1 n c1 L g nr rs:=by
 obtain ⟨h1,h2|h2⟩:=h
 ·exact absurd h2.1 (by simp)
 ·exact ⟨h1,h2.2⟩
set_option maxHeartbeats 8000000 in
theorem puzzleOf_walk (A:Option Addr) (c n:Nat) (bs:List Int) (w:World) (h:Code_ w A n c bs) (hT:Tz w):
 Calls Tryz.prog 5 #[.slice A n c] w fun e w'=>e=.returned (.bool true)/\Below w.heap.size w w':=by
 by_cases hn:n<=1048576
 ·go_enter Tryz.func5,Tryz.ntmps5
  go_wp2_with fail
  refine (draw_DrawPuzzleOf _ _ _ _ _ h).mono ?_;rintro e w1 ⟨s,A1,n1,c1,gi,A2,nr,c2,rs,rfl,s2,s4,hrd,hn16,hR,hl,hnr,hb1⟩;have hpc:PGc w1 s A1 n1 c1 w1.heap.size gi A2 nr c2 w1.heap.size rs:=⟨hrd,Nat.le_refl _,by omega,hR.rdc hl,Nat.le_refl _,by omega⟩;have hps:PGs w1 s A1 n1 c1 w1.heap.size gi A2 nr c2 w1.heap.size rs:=⟨hrd,Nat.le_refl _,by omega,OwR.rd hl hR,Nat.le_refl _,by omega⟩;have hgl:=hrd.1;have hI:=implPuzzleOf _ _ _ _ _ _ _ _ _ _ _ _ hpc;have HS:=Lib.hid (fun w' (hb:Below w1.heap.size w1 w')=>specPuzzleOf _ _ _ _ _ _ _ _ _ _ _ w' (hps.below hb) (by omega));have HRG:=Lib.hid (fun w' (hb:Below w1.heap.size w1 w')=>hrd.below hb);have HTz:=Lib.hid (fun w' (hb:Below w1.heap.size w1 w')=>hT.below hT.lt (step hb1 hb));have Hl:=Lib.hid hl;clear hpc hps hrd hR hl;cases hok:psB s gi rs gi
  ·rw [hok] at hI;have HI:=Lib.hid hI
   have HS:=Lib.hid (fun w' (hb:Below w1.heap.size w1 w')=>by
    have:=HS.out w' hb;rw [hok] at this
    exact this)
   clear hI hok
   go_wp2_with fail
   refine HI.out.mono ?_;rintro e w2 h2;obtain ⟨hb2,rfl⟩:=(poI_no h2);have hx0:=pbox_new w2 0 none 0 0 none 0 0 26;have hbA:Below w2.heap.size w2 (w2.alloc (.cells #[.int .i64 0,.slice none 0 0,.slice none 0 0] 26)):=(Below.refl _ _).alloc (Nat.le_refl _) _;obtain ⟨W,hW⟩:∃ W,w2.alloc (.cells #[.int .i64 0,.slice none 0 0,.slice none 0 0] 26)=W:=⟨_,rfl⟩;have hsW:W.heap.size=w2.heap.size+1:=(by rw [<- hW];simp);rw [hW] at hx0 hbA;have h1W:=step hb2 hbA;have HX:=Lib.hid (fun w' (hb:Below W.heap.size W w')=>hx0.below (by omega:w2.heap.size<W.heap.size) hb);have HW:=Lib.hid hW;clear hW hx0
   go_wp2_with fail
   rw [HW.out];refine (HS.out _ h1W).mono ?_;rintro e w3 h3;obtain ⟨hb3,rfl⟩:=(poS_no h3);have hy0:=pbox_new w3 0 none 0 0 none 0 0 26;have hbC:Below w3.heap.size w3 (w3.alloc (.cells #[.int .i64 0,.slice none 0 0,.slice none 0 0] 26)):=(Below.refl _ _).alloc (Nat.le_refl _) _;obtain ⟨V,hV⟩:∃ V,w3.alloc (.cells #[.int .i64 0,.slice none 0 0,.slice none 0 0] 26)=V:=⟨_,rfl⟩;rw [hV] at hy0 hbC;have hWV:=step hb3 hbC;have hx1:=HX.out _ hWV;have HSP:=Lib.hid (samePuzzle_any 0 none none 0 0 0 V.heap.size V.heap.size [] none none 0 0 0 V.heap.size V.heap.size [] V ⟨rfl,fun h=>absurd h (by omega)⟩ (Nat.le_refl _) (by omega) ⟨rfl,fun h=>absurd h (by omega)⟩ (Nat.le_refl _) ⟨rfl,fun h=>absurd h (by omega)⟩ ⟨rfl,fun h=>absurd h (by omega)⟩ (Nat.le_refl _) (Nat.le_refl _) (by omega))
   rw [<- hV] at hx1 hy0;obtain ⟨x0,x1,x2⟩:=hx1;obtain ⟨y0,y1,y2⟩:=hy0;have HV:=Lib.hid hV;clear hV
   go_wp2_with fail
   rw [HV.out];refine HSP.out.mono ?_;rintro e w4 ⟨rfl,hb4⟩;have hW4:=step hWV hb4;obtain ⟨z0,z1,z2⟩:=HX.out _ hW4;clear x0 x1 x2 y0 y1 y2
   go_wp2_with (first|(go_at_call 17;(with_reducible refine (alive_any _).mono ?_);rintro e w6 ⟨rfl,hb6⟩))
   go_ret
   exact ⟨rfl,step hb1 (step h1W (step hW4 hb6))⟩
  ·obtain ⟨t,rfl,hs,hnn,_,_⟩:=pv_grid (psB_pv hok) hgl;have hnn2:n1=t*t:=(by simp at hs;rcases hs with rfl|rfl|rfl<;>omega);obtain ⟨eL,eB,eC,eG⟩:=full_all hs hnn2 hgl hok;rw [hok] at hI;have HI:=Lib.hid hI
   have HS:=Lib.hid (fun w' (hb:Below w1.heap.size w1 w')=>by
    have:=HS.out w' hb;rw [hok] at this
    exact this)
   have HL:=Lib.hid eL;have HB:=Lib.hid eB;have HC:=Lib.hid eC;have HG:=Lib.hid eG;clear hI hok hnn hnn2 hs eL eB eC eG
   go_wp2_with fail
   refine HI.out.mono ?_;rintro e w2 h2;obtain ⟨hb2,Ai,ci,g,rfl,ho⟩:=(poI_yes h2);have hx0:=pbox_new w2 (t:Int) Ai n1 ci (some ⟨g,0,none⟩) nr nr 26;have hbA:Below w2.heap.size w2 (w2.alloc (.cells #[.int .i64 t,.slice Ai n1 ci,.slice (some ⟨g,0,none⟩) nr nr] 26)):=(Below.refl _ _).alloc (Nat.le_refl _) _;obtain ⟨W,hW⟩:∃ W,w2.alloc (.cells #[.int .i64 t,.slice Ai n1 ci,.slice (some ⟨g,0,none⟩) nr nr] 26)=W:=⟨_,rfl⟩;have hsW:W.heap.size=w2.heap.size+1:=(by rw [<- hW];simp);rw [hW] at hx0 hbA;have h1W:=step hb2 hbA;have hoW:=ho.below hbA;have hpi:PGc W (t:Int) Ai n1 ci W.heap.size gi (some ⟨g,0,none⟩) nr nr W.heap.size rs:=hoW.pgc (by omega) Hl.out (by omega)
   have hri:=hoW.rdR Hl.out;have HX:=Lib.hid (fun w' (hb:Below W.heap.size W w')=>hx0.below (by omega:w2.heap.size<W.heap.size) hb);have HP:=Lib.hid (fun w' (hb:Below W.heap.size W w')=>hpi.below hb);have HRI:=Lib.hid (fun w' (hb:Below W.heap.size W w')=>hri.below hb);have HRA:=Lib.hid (fun w' (hb:Below W.heap.size W w')=>hoW.1.rd.below hb);have HW:=Lib.hid hW;clear hW hx0 ho hoW hpi hri
   go_wp2_with fail
   rw [HW.out];refine (HS.out _ h1W).mono ?_;rintro e w3 h3;obtain ⟨hb3,As,cs,As2,cs2,rfl,hgs,hrs⟩:=(poS_yes h3);have hy0:=pbox_new w3 (t:Int) As n1 cs As2 nr cs2 26;have hbC:Below w3.heap.size w3 (w3.alloc (.cells #[.int .i64 t,.slice As n1 cs,.slice As2 nr cs2] 26)):=(Below.refl _ _).alloc (Nat.le_refl _) _;obtain ⟨V,hV⟩:∃ V,w3.alloc (.cells #[.int .i64 t,.slice As n1 cs,.slice As2 nr cs2] 26)=V:=⟨_,rfl⟩;rw [hV] at hy0 hbC;have hWV:=step hb3 hbC;have hx1:=HX.out _ hWV;have HSP:=Lib.hid (samePuzzle_any t Ai As ci cs n1 W.heap.size w3.heap.size gi (some ⟨g,0,none⟩) As2 nr cs2 nr W.heap.size w3.heap.size rs V (HRA.out _ hWV) hWV.size (by omega) (hgs.below hbC) hbC.size (HRI.out _ hWV) (hrs.below hbC) hWV.size hbC.size (by omega))
   rw [<- hV] at hx1 hy0;obtain ⟨x0,x1,x2⟩:=hx1;obtain ⟨y0,y1,y2⟩:=hy0;have HV:=Lib.hid hV;clear hV hgs hrs
   go_wp2_with fail
   rw [HV.out];refine HSP.out.mono ?_;rintro e w4 ⟨rfl,hb4⟩;have hW4:=step hWV hb4;obtain ⟨z0,z1,z2⟩:=HX.out _ hW4;clear x0 x1 x2 y0 y1 y2;have HSF:=implSolveFirst _ _ _ _ _ _ _ _ _ _ _ _ (HP.out _ hW4) (HTz.out _ (step h1W hW4));rw [HB.out,HL.out] at HSF;have HSF:=Lib.hid HSF
   go_wp2_with fail
   refine HSF.out.mono ?_;rintro e w5 ⟨A5,m5,c5,rfl,hm5,ho5,hb5⟩;obtain rfl:=hm5 (by trivial);clear hm5 z0 z1 z2;have hW5:=step hW4 hb5;have hsame:=same_refl gi;have HSI:=Lib.hid (sameInts_any A5 A1 c5 c1 m5 m5 w5.heap.size w1.heap.size gi gi w5 ho5.rd (HRG.out _ (step h1W hW5)) (by omega))
   go_wp2_with fail
   refine HSI.out.mono ?_;rintro e w6 ⟨rfl,hb6⟩;rw [hsame];have hW6:=step hW5 hb6;obtain ⟨z0,z1,z2⟩:=HX.out _ hW6;have HCS:=implCountSolutions _ _ _ _ _ _ _ _ _ _ _ 2 w6 (HP.out _ hW6) (HTz.out _ (step h1W hW6));rw [HC.out] at HCS;have HCS:=Lib.hid HCS;clear ho5
   go_wp2_with fail
   refine HCS.out.mono ?_;rintro e w7 ⟨rfl,hb7⟩;have hW7:=step hW6 hb7;obtain ⟨u0,u1,u2⟩:=HX.out _ hW7;have HGP:=implGradePuzzle _ _ _ _ _ _ _ _ _ _ _ _ (HP.out _ hW7) (HTz.out _ (step h1W hW7));rw [HG.out] at HGP;have HGP:=Lib.hid HGP;clear z0 z1 z2
   go_wp2_with fail
   refine HGP.out.mono ?_;rintro e w8 ⟨rfl,hb8⟩
   go_wp2
   go_ret
   exact ⟨rfl,step hb1 (step h1W (step hW7 hb8))⟩
 ·have hlen:decide ((n:Int)>1048576)=true:=by rw [decide_eq_true_eq];omega
  go_enter Tryz.func5,Tryz.ntmps5
  go_wp2
  go_ret
  exact ⟨rfl,Below.refl _ _⟩
end Go.Proofs.YtlnmioijgclndaaGreatDoor
