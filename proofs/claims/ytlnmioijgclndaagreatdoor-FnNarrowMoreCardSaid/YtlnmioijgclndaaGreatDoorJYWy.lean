import Derived.Test.YtlnmioijgclndaaGreatDoorJYRegA
set_option maxRecDepth 8000
namespace Go.Proofs.YtlnmioijgclndaaGreatDoor
open Go.ChangeShapes Go.WideShapes Go.ChangeAt Go.RowKit
theorem specL6Copy (A:Option Addr) (n c B:Nat) (xs:List Int) (w:World) (h:Rd w B A n xs) (hB:B<=w.heap.size) (hm:n<=1099511627776):
 Calls Tryz.prog 108 #[.slice A n c] w fun e w'=>∃ A' c',e=.returned (.slice A' n c')/\Ow w' w.heap.size A' n c' xs/\Below w.heap.size w w':=by
 have hb0:Below w.heap.size w (w.alloc (.cells #[] 3)):=(Below.refl _ _).alloc (Nat.le_refl _) _;have HO:=Lib.hid (Ow.made0 w w.heap.size (Nat.le_refl _));have HR:=Lib.hid (h.below (hb0.mono hB))
 have hsO:w.heap.size<=(w.alloc (.cells #[] 3)).heap.size:=by simp
 go_enter Tryz.func108,Tryz.ntmps108
 go_wp2_with (at_builtin;(refine push_new rfl (.tmp 3) (.tmp 4) rfl w.heap.size (some ⟨w.heap.size,0,none⟩) A n c B xs rfl rfl HO.out HR.out hm hsO ?_);intro A1 c1 w1 ho1 hg1;have hb1:=hb0.grown hg1 hb0.size (fun k hk=>HO.out.own_lo k hk))
 go_ret
 exact ⟨_,_,rfl,ho1,hb1⟩
def startC (gi:List Int) (s:Nat) (j:Nat):Int:=if 0<nth gi j then 2^(nth gi j).toNat else 2^(s+1)-2
def startL (s:Int) (gi:List Int) (rs:List RuleM) (n:Nat):List Int:=if pvB s gi rs=true then mapTo (startC gi s.toNat) n else []
set_option maxHeartbeats 2000000 in
theorem specStartMasks (s:Int) (Ag:Option Addr) (n cg Bg:Nat) (gi:List Int) (Ar:Option Addr) (nr cr Br:Nat) (rs:List RuleM) (w:World) (hp:PGs w s Ag n cg Bg gi Ar nr cr Br rs):
 Calls Tryz.prog 57 #[.agg #[.int .i64 s,.slice Ag n cg,.slice Ar nr cr]] w (RetSl w (startL s gi rs n)):=by
 have hx0:=pbox_new w s Ag n cg Ar nr cr 26;have hb0:Below w.heap.size w (w.alloc (.cells #[.int .i64 s,.slice Ag n cg,.slice Ar nr cr] 26)):=(Below.refl _ _).alloc (Nat.le_refl _) _
 have hs0:w.heap.size<(w.alloc (.cells #[.int .i64 s,.slice Ag n cg,.slice Ar nr cr] 26)).heap.size:=by simp
 have HP:=Lib.hid (fun w' (hb:Below w.heap.size w w')=>specPuzzleValid s Ag n cg Bg gi Ar nr cr Br rs w' (hp.below hb).g (hp.below hb).gB hp.gm (hp.below hb).r (hp.below hb).rB hp.rm);have hlen:=Lib.hid hp.g.1;have hm:=hp.gm;cases hv:pvB s gi rs
 ·have HL:=Lib.hid (show startL s gi rs n=[] by simp [startL,hv])
  go_enter Tryz.func57,Tryz.ntmps57
  go_wp2
  obtain ⟨W0,hW0⟩:∃ W0,W0=w.alloc (.cells #[.int .i64 s,.slice Ag n cg,.slice Ar nr cr] 26):=⟨_,rfl⟩;rw [<- hW0] at hx0 hb0 hs0;rw [<- hW0]
  have hsW:W0.heap.size=w.heap.size+1:=by rw [hW0];simp
  clear hW0;have hb1:Below W0.heap.size W0 (W0.alloc (.cells #[] 3)):=(Below.refl _ _).alloc (Nat.le_refl _) _;have hO:=Ow.made0 W0 W0.heap.size (Nat.le_refl _);obtain ⟨c0,c1,c2⟩:=hx0.below hs0 hb1;have hb1':=step hb0 hb1;rw [hsW] at hO
  go_loopw [3,4] (fun v i wr=>v=.slice (some ⟨w.heap.size+1,0,none⟩) 0 0/\i=.int .i64 0/\wr=W0.alloc (.cells #[] 3)) (fun _ _ _=>0)
  case atStart=>exact ⟨by first|rfl|rw [hsW],rfl,rfl⟩
  case round=>
   obtain ⟨rfl,rfl,rfl⟩:=hrel
   by_cases hlt:0<n
   ·have hlt':(0:Int)<(n:Int):=(by omega)
    go_wp2_with (go_at_call 22;refine (HP.out _ hb1').mono ?_;rintro e w1 ⟨rfl,hb2⟩;rw [hv])
    go_ret
    rw [HL.out];exact ⟨_,_,rfl,((show Ow _ (w.heap.size+1) _ 0 0 [] from hO).below hb2).mono (by omega),step hb1' hb2⟩
   ·obtain rfl:n=0:=by omega
    go_wp2
    go_ret
    rw [HL.out];exact ⟨_,_,rfl,(show Ow _ (w.heap.size+1) _ 0 0 [] from hO).mono (by omega),hb1'⟩
 ·obtain ⟨t,hst,hs,hn',hn16,hok'⟩:=pv_grid hv hp.g.1
  have hs3:s=2\/s=3\/s=4:=by rw [hst];simp at hs;omega
  rw [<- hst] at hok';have hok:=Lib.hid hok';clear hn' hok' hst hs
  rcases hs3 with rfl|rfl|rfl
  ·have HL:=Lib.hid (show startL 2 gi rs n=mapTo (startC gi 2) n by simp [startL,hv])
   go_enter Tryz.func57,Tryz.ntmps57
   go_wp2
   obtain ⟨W0,hW0⟩:∃ W0,W0=w.alloc (.cells #[.int .i64 2,.slice Ag n cg,.slice Ar nr cr] 26):=⟨_,rfl⟩;rw [<- hW0] at hx0 hb0 hs0;rw [<- hW0];have hsW:W0.heap.size=w.heap.size+1:=(by rw [hW0];simp);clear hW0;have hb1:Below W0.heap.size W0 (W0.alloc (.cells #[] 3)):=(Below.refl _ _).alloc (Nat.le_refl _) _;have hO:=Ow.made0 W0 W0.heap.size (Nat.le_refl _)
   go_loopw [3,4] (fun v i wr=>∃ (u:Nat) (A':Option Addr) (c':Nat),u<=n/\i=.int .i64 u/\v=.slice A' u c'/\Ow wr W0.heap.size A' u c' (mapTo (startC gi 2) u)/\Below W0.heap.size W0 wr) (fun _ i _=>n-(intOf i).toNat)
   case atStart=>exact ⟨0,_,_,Nat.zero_le _,rfl,by first|rfl|rw [hsW],hO,hb1⟩
   case round=>
    obtain ⟨u,A',c',hu,rfl,rfl,ho,hb⟩:=hrel;obtain ⟨c0,c1,c2⟩:=hx0.below hs0 hb
    by_cases hlt:u<n
    ·have hbw:=step hb0 hb;have hsw:=hb.size;have hlow:W0.heap.size<=wr.heap.size:=hsw;obtain ⟨b,off,hA,hbB,hck⟩:=(hp.below hbw).g.at_ hlt;subst hA;have hbwr:b<wr.heap.size:=Nat.lt_of_lt_of_le hbB (hp.below hbw).gB;have hu1:u<=1099511627776:=(by omega);have hx4:=hok.out u hlt
     have hcase:nth gi u=0\/nth gi u=1\/nth gi u=2\/nth gi u=3\/nth gi u=4:=by
      have:(0:Int)<=0:=(by omega);omega
     have hwr0:w.heap.size<wr.heap.size:=(by omega)
     rcases hcase with h|h|h|h|h
     ·rw [h] at hck;have hq:startC gi 2 u=6:=(by simp [startC,h]);clear h
      go_wp2_with (first
       |(go_at_call 22;refine (HP.out _ hbw).mono ?_;rintro e w1 ⟨rfl,hb2⟩;rw [hv];obtain ⟨d0,d1,d2⟩:=PBox.below ⟨c0,c1,c2⟩ hwr0 hb2;have hck1:=(hb2.cell (p:=⟨b,off+u,none⟩) hbwr).trans hck;have ho2:=ho.below hb2;have hs2:=Nat.le_trans hlow hb2.size)
       |(at_builtin;refine push_int rfl (.tmp 32) (.tmp 38) rfl W0.heap.size A' u c' (mapTo (startC gi 2) u) _ rfl rfl ho2 hu1 hs2 ?_;intro A5 c5 w5 ho5 hg5))
      go_roundw
      case rel=>exact ⟨u+1,_,_,by omega,by go_num,rfl,by rw [mapTo_succ,hq];exact ho5,push_below (hb.trans (hb2.mono hlow)) ho2 (Nat.le_refl _) hs2 hg5⟩
      case measure=>simp [intOf];omega
     ·rw [h] at hck;have hq:startC gi 2 u=2:=(by simp [startC,h]);clear h
      go_wp2_with (first
       |(go_at_call 22;refine (HP.out _ hbw).mono ?_;rintro e w1 ⟨rfl,hb2⟩;rw [hv];obtain ⟨d0,d1,d2⟩:=PBox.below ⟨c0,c1,c2⟩ hwr0 hb2;have hck1:=(hb2.cell (p:=⟨b,off+u,none⟩) hbwr).trans hck;have ho2:=ho.below hb2;have hs2:=Nat.le_trans hlow hb2.size)
       |(at_builtin;refine push_int rfl (.tmp 23) (.tmp 30) rfl W0.heap.size A' u c' (mapTo (startC gi 2) u) _ rfl rfl ho2 hu1 hs2 ?_;intro A5 c5 w5 ho5 hg5))
      go_roundw
      case rel=>exact ⟨u+1,_,_,by omega,by go_num,rfl,by rw [mapTo_succ,hq];exact ho5,push_below (hb.trans (hb2.mono hlow)) ho2 (Nat.le_refl _) hs2 hg5⟩
      case measure=>simp [intOf];omega
     ·rw [h] at hck;have hq:startC gi 2 u=4:=(by simp [startC,h]);clear h
      go_wp2_with (first
       |(go_at_call 22;refine (HP.out _ hbw).mono ?_;rintro e w1 ⟨rfl,hb2⟩;rw [hv];obtain ⟨d0,d1,d2⟩:=PBox.below ⟨c0,c1,c2⟩ hwr0 hb2;have hck1:=(hb2.cell (p:=⟨b,off+u,none⟩) hbwr).trans hck;have ho2:=ho.below hb2;have hs2:=Nat.le_trans hlow hb2.size)
       |(at_builtin;refine push_int rfl (.tmp 23) (.tmp 30) rfl W0.heap.size A' u c' (mapTo (startC gi 2) u) _ rfl rfl ho2 hu1 hs2 ?_;intro A5 c5 w5 ho5 hg5))
      go_roundw
      case rel=>exact ⟨u+1,_,_,by omega,by go_num,rfl,by rw [mapTo_succ,hq];exact ho5,push_below (hb.trans (hb2.mono hlow)) ho2 (Nat.le_refl _) hs2 hg5⟩
      case measure=>simp [intOf];omega
     ·rw [h] at hck;have hq:startC gi 2 u=8:=(by simp [startC,h]);clear h
      go_wp2_with (first
       |(go_at_call 22;refine (HP.out _ hbw).mono ?_;rintro e w1 ⟨rfl,hb2⟩;rw [hv];obtain ⟨d0,d1,d2⟩:=PBox.below ⟨c0,c1,c2⟩ hwr0 hb2;have hck1:=(hb2.cell (p:=⟨b,off+u,none⟩) hbwr).trans hck;have ho2:=ho.below hb2;have hs2:=Nat.le_trans hlow hb2.size)
       |(at_builtin;refine push_int rfl (.tmp 23) (.tmp 30) rfl W0.heap.size A' u c' (mapTo (startC gi 2) u) _ rfl rfl ho2 hu1 hs2 ?_;intro A5 c5 w5 ho5 hg5))
      go_roundw
      case rel=>exact ⟨u+1,_,_,by omega,by go_num,rfl,by rw [mapTo_succ,hq];exact ho5,push_below (hb.trans (hb2.mono hlow)) ho2 (Nat.le_refl _) hs2 hg5⟩
      case measure=>simp [intOf];omega
     ·rw [h] at hck;have hq:startC gi 2 u=16:=(by simp [startC,h]);clear h
      go_wp2_with (first
       |(go_at_call 22;refine (HP.out _ hbw).mono ?_;rintro e w1 ⟨rfl,hb2⟩;rw [hv];obtain ⟨d0,d1,d2⟩:=PBox.below ⟨c0,c1,c2⟩ hwr0 hb2;have hck1:=(hb2.cell (p:=⟨b,off+u,none⟩) hbwr).trans hck;have ho2:=ho.below hb2;have hs2:=Nat.le_trans hlow hb2.size)
       |(at_builtin;refine push_int rfl (.tmp 23) (.tmp 30) rfl W0.heap.size A' u c' (mapTo (startC gi 2) u) _ rfl rfl ho2 hu1 hs2 ?_;intro A5 c5 w5 ho5 hg5))
      go_roundw
      case rel=>exact ⟨u+1,_,_,by omega,by go_num,rfl,by rw [mapTo_succ,hq];exact ho5,push_below (hb.trans (hb2.mono hlow)) ho2 (Nat.le_refl _) hs2 hg5⟩
      case measure=>simp [intOf];omega
    ·obtain rfl:u=n:=by omega
     go_wp2
     go_ret
     rw [HL.out];exact retSl_mk (ho.mono (by omega)) (step hb0 hb)
  ·have HL:=Lib.hid (show startL 3 gi rs n=mapTo (startC gi 3) n by simp [startL,hv])
   go_enter Tryz.func57,Tryz.ntmps57
   go_wp2
   obtain ⟨W0,hW0⟩:∃ W0,W0=w.alloc (.cells #[.int .i64 3,.slice Ag n cg,.slice Ar nr cr] 26):=⟨_,rfl⟩;rw [<- hW0] at hx0 hb0 hs0;rw [<- hW0];have hsW:W0.heap.size=w.heap.size+1:=(by rw [hW0];simp);clear hW0;have hb1:Below W0.heap.size W0 (W0.alloc (.cells #[] 3)):=(Below.refl _ _).alloc (Nat.le_refl _) _;have hO:=Ow.made0 W0 W0.heap.size (Nat.le_refl _)
   go_loopw [3,4] (fun v i wr=>∃ (u:Nat) (A':Option Addr) (c':Nat),u<=n/\i=.int .i64 u/\v=.slice A' u c'/\Ow wr W0.heap.size A' u c' (mapTo (startC gi 3) u)/\Below W0.heap.size W0 wr) (fun _ i _=>n-(intOf i).toNat)
   case atStart=>exact ⟨0,_,_,Nat.zero_le _,rfl,by first|rfl|rw [hsW],hO,hb1⟩
   case round=>
    obtain ⟨u,A',c',hu,rfl,rfl,ho,hb⟩:=hrel;obtain ⟨c0,c1,c2⟩:=hx0.below hs0 hb
    by_cases hlt:u<n
    ·have hbw:=step hb0 hb;have hsw:=hb.size;have hlow:W0.heap.size<=wr.heap.size:=hsw;obtain ⟨b,off,hA,hbB,hck⟩:=(hp.below hbw).g.at_ hlt;subst hA;have hbwr:b<wr.heap.size:=Nat.lt_of_lt_of_le hbB (hp.below hbw).gB;have hu1:u<=1099511627776:=(by omega);have hx4:=hok.out u hlt
     have hcase:nth gi u=0\/nth gi u=1\/nth gi u=2\/nth gi u=3\/nth gi u=4:=by
      have:(0:Int)<=0:=(by omega);omega
     have hwr0:w.heap.size<wr.heap.size:=(by omega)
     rcases hcase with h|h|h|h|h
     ·rw [h] at hck;have hq:startC gi 3 u=14:=(by simp [startC,h]);clear h
      go_wp2_with (first
       |(go_at_call 22;refine (HP.out _ hbw).mono ?_;rintro e w1 ⟨rfl,hb2⟩;rw [hv];obtain ⟨d0,d1,d2⟩:=PBox.below ⟨c0,c1,c2⟩ hwr0 hb2;have hck1:=(hb2.cell (p:=⟨b,off+u,none⟩) hbwr).trans hck;have ho2:=ho.below hb2;have hs2:=Nat.le_trans hlow hb2.size)
       |(at_builtin;refine push_int rfl (.tmp 32) (.tmp 38) rfl W0.heap.size A' u c' (mapTo (startC gi 3) u) _ rfl rfl ho2 hu1 hs2 ?_;intro A5 c5 w5 ho5 hg5))
      go_roundw
      case rel=>exact ⟨u+1,_,_,by omega,by go_num,rfl,by rw [mapTo_succ,hq];exact ho5,push_below (hb.trans (hb2.mono hlow)) ho2 (Nat.le_refl _) hs2 hg5⟩
      case measure=>simp [intOf];omega
     ·rw [h] at hck;have hq:startC gi 3 u=2:=(by simp [startC,h]);clear h
      go_wp2_with (first
       |(go_at_call 22;refine (HP.out _ hbw).mono ?_;rintro e w1 ⟨rfl,hb2⟩;rw [hv];obtain ⟨d0,d1,d2⟩:=PBox.below ⟨c0,c1,c2⟩ hwr0 hb2;have hck1:=(hb2.cell (p:=⟨b,off+u,none⟩) hbwr).trans hck;have ho2:=ho.below hb2;have hs2:=Nat.le_trans hlow hb2.size)
       |(at_builtin;refine push_int rfl (.tmp 23) (.tmp 30) rfl W0.heap.size A' u c' (mapTo (startC gi 3) u) _ rfl rfl ho2 hu1 hs2 ?_;intro A5 c5 w5 ho5 hg5))
      go_roundw
      case rel=>exact ⟨u+1,_,_,by omega,by go_num,rfl,by rw [mapTo_succ,hq];exact ho5,push_below (hb.trans (hb2.mono hlow)) ho2 (Nat.le_refl _) hs2 hg5⟩
      case measure=>simp [intOf];omega
     ·rw [h] at hck;have hq:startC gi 3 u=4:=(by simp [startC,h]);clear h
      go_wp2_with (first
       |(go_at_call 22;refine (HP.out _ hbw).mono ?_;rintro e w1 ⟨rfl,hb2⟩;rw [hv];obtain ⟨d0,d1,d2⟩:=PBox.below ⟨c0,c1,c2⟩ hwr0 hb2;have hck1:=(hb2.cell (p:=⟨b,off+u,none⟩) hbwr).trans hck;have ho2:=ho.below hb2;have hs2:=Nat.le_trans hlow hb2.size)
       |(at_builtin;refine push_int rfl (.tmp 23) (.tmp 30) rfl W0.heap.size A' u c' (mapTo (startC gi 3) u) _ rfl rfl ho2 hu1 hs2 ?_;intro A5 c5 w5 ho5 hg5))
      go_roundw
      case rel=>exact ⟨u+1,_,_,by omega,by go_num,rfl,by rw [mapTo_succ,hq];exact ho5,push_below (hb.trans (hb2.mono hlow)) ho2 (Nat.le_refl _) hs2 hg5⟩
      case measure=>simp [intOf];omega
     ·rw [h] at hck;have hq:startC gi 3 u=8:=(by simp [startC,h]);clear h
      go_wp2_with (first
       |(go_at_call 22;refine (HP.out _ hbw).mono ?_;rintro e w1 ⟨rfl,hb2⟩;rw [hv];obtain ⟨d0,d1,d2⟩:=PBox.below ⟨c0,c1,c2⟩ hwr0 hb2;have hck1:=(hb2.cell (p:=⟨b,off+u,none⟩) hbwr).trans hck;have ho2:=ho.below hb2;have hs2:=Nat.le_trans hlow hb2.size)
       |(at_builtin;refine push_int rfl (.tmp 23) (.tmp 30) rfl W0.heap.size A' u c' (mapTo (startC gi 3) u) _ rfl rfl ho2 hu1 hs2 ?_;intro A5 c5 w5 ho5 hg5))
      go_roundw
      case rel=>exact ⟨u+1,_,_,by omega,by go_num,rfl,by rw [mapTo_succ,hq];exact ho5,push_below (hb.trans (hb2.mono hlow)) ho2 (Nat.le_refl _) hs2 hg5⟩
      case measure=>simp [intOf];omega
     ·rw [h] at hck;have hq:startC gi 3 u=16:=(by simp [startC,h]);clear h
      go_wp2_with (first
       |(go_at_call 22;refine (HP.out _ hbw).mono ?_;rintro e w1 ⟨rfl,hb2⟩;rw [hv];obtain ⟨d0,d1,d2⟩:=PBox.below ⟨c0,c1,c2⟩ hwr0 hb2;have hck1:=(hb2.cell (p:=⟨b,off+u,none⟩) hbwr).trans hck;have ho2:=ho.below hb2;have hs2:=Nat.le_trans hlow hb2.size)
       |(at_builtin;refine push_int rfl (.tmp 23) (.tmp 30) rfl W0.heap.size A' u c' (mapTo (startC gi 3) u) _ rfl rfl ho2 hu1 hs2 ?_;intro A5 c5 w5 ho5 hg5))
      go_roundw
      case rel=>exact ⟨u+1,_,_,by omega,by go_num,rfl,by rw [mapTo_succ,hq];exact ho5,push_below (hb.trans (hb2.mono hlow)) ho2 (Nat.le_refl _) hs2 hg5⟩
      case measure=>simp [intOf];omega
    ·obtain rfl:u=n:=by omega
     go_wp2
     go_ret
     rw [HL.out];exact retSl_mk (ho.mono (by omega)) (step hb0 hb)
  ·have HL:=Lib.hid (show startL 4 gi rs n=mapTo (startC gi 4) n by simp [startL,hv])
   go_enter Tryz.func57,Tryz.ntmps57
   go_wp2
   obtain ⟨W0,hW0⟩:∃ W0,W0=w.alloc (.cells #[.int .i64 4,.slice Ag n cg,.slice Ar nr cr] 26):=⟨_,rfl⟩;rw [<- hW0] at hx0 hb0 hs0;rw [<- hW0];have hsW:W0.heap.size=w.heap.size+1:=(by rw [hW0];simp);clear hW0;have hb1:Below W0.heap.size W0 (W0.alloc (.cells #[] 3)):=(Below.refl _ _).alloc (Nat.le_refl _) _;have hO:=Ow.made0 W0 W0.heap.size (Nat.le_refl _)
   go_loopw [3,4] (fun v i wr=>∃ (u:Nat) (A':Option Addr) (c':Nat),u<=n/\i=.int .i64 u/\v=.slice A' u c'/\Ow wr W0.heap.size A' u c' (mapTo (startC gi 4) u)/\Below W0.heap.size W0 wr) (fun _ i _=>n-(intOf i).toNat)
   case atStart=>exact ⟨0,_,_,Nat.zero_le _,rfl,by first|rfl|rw [hsW],hO,hb1⟩
   case round=>
    obtain ⟨u,A',c',hu,rfl,rfl,ho,hb⟩:=hrel;obtain ⟨c0,c1,c2⟩:=hx0.below hs0 hb
    by_cases hlt:u<n
    ·have hbw:=step hb0 hb;have hsw:=hb.size;have hlow:W0.heap.size<=wr.heap.size:=hsw;obtain ⟨b,off,hA,hbB,hck⟩:=(hp.below hbw).g.at_ hlt;subst hA;have hbwr:b<wr.heap.size:=Nat.lt_of_lt_of_le hbB (hp.below hbw).gB;have hu1:u<=1099511627776:=(by omega);have hx4:=hok.out u hlt
     have hcase:nth gi u=0\/nth gi u=1\/nth gi u=2\/nth gi u=3\/nth gi u=4:=by
      have:(0:Int)<=0:=(by omega);omega
     have hwr0:w.heap.size<wr.heap.size:=(by omega)
     rcases hcase with h|h|h|h|h
     ·rw [h] at hck;have hq:startC gi 4 u=30:=(by simp [startC,h]);clear h
      go_wp2_with (first
       |(go_at_call 22;refine (HP.out _ hbw).mono ?_;rintro e w1 ⟨rfl,hb2⟩;rw [hv];obtain ⟨d0,d1,d2⟩:=PBox.below ⟨c0,c1,c2⟩ hwr0 hb2;have hck1:=(hb2.cell (p:=⟨b,off+u,none⟩) hbwr).trans hck;have ho2:=ho.below hb2;have hs2:=Nat.le_trans hlow hb2.size)
       |(at_builtin;refine push_int rfl (.tmp 32) (.tmp 38) rfl W0.heap.size A' u c' (mapTo (startC gi 4) u) _ rfl rfl ho2 hu1 hs2 ?_;intro A5 c5 w5 ho5 hg5))
      go_roundw
      case rel=>exact ⟨u+1,_,_,by omega,by go_num,rfl,by rw [mapTo_succ,hq];exact ho5,push_below (hb.trans (hb2.mono hlow)) ho2 (Nat.le_refl _) hs2 hg5⟩
      case measure=>simp [intOf];omega
     ·rw [h] at hck;have hq:startC gi 4 u=2:=(by simp [startC,h]);clear h
      go_wp2_with (first
       |(go_at_call 22;refine (HP.out _ hbw).mono ?_;rintro e w1 ⟨rfl,hb2⟩;rw [hv];obtain ⟨d0,d1,d2⟩:=PBox.below ⟨c0,c1,c2⟩ hwr0 hb2;have hck1:=(hb2.cell (p:=⟨b,off+u,none⟩) hbwr).trans hck;have ho2:=ho.below hb2;have hs2:=Nat.le_trans hlow hb2.size)
       |(at_builtin;refine push_int rfl (.tmp 23) (.tmp 30) rfl W0.heap.size A' u c' (mapTo (startC gi 4) u) _ rfl rfl ho2 hu1 hs2 ?_;intro A5 c5 w5 ho5 hg5))
      go_roundw
      case rel=>exact ⟨u+1,_,_,by omega,by go_num,rfl,by rw [mapTo_succ,hq];exact ho5,push_below (hb.trans (hb2.mono hlow)) ho2 (Nat.le_refl _) hs2 hg5⟩
      case measure=>simp [intOf];omega
     ·rw [h] at hck;have hq:startC gi 4 u=4:=(by simp [startC,h]);clear h
      go_wp2_with (first
       |(go_at_call 22;refine (HP.out _ hbw).mono ?_;rintro e w1 ⟨rfl,hb2⟩;rw [hv];obtain ⟨d0,d1,d2⟩:=PBox.below ⟨c0,c1,c2⟩ hwr0 hb2;have hck1:=(hb2.cell (p:=⟨b,off+u,none⟩) hbwr).trans hck;have ho2:=ho.below hb2;have hs2:=Nat.le_trans hlow hb2.size)
       |(at_builtin;refine push_int rfl (.tmp 23) (.tmp 30) rfl W0.heap.size A' u c' (mapTo (startC gi 4) u) _ rfl rfl ho2 hu1 hs2 ?_;intro A5 c5 w5 ho5 hg5))
      go_roundw
      case rel=>exact ⟨u+1,_,_,by omega,by go_num,rfl,by rw [mapTo_succ,hq];exact ho5,push_below (hb.trans (hb2.mono hlow)) ho2 (Nat.le_refl _) hs2 hg5⟩
      case measure=>simp [intOf];omega
     ·rw [h] at hck;have hq:startC gi 4 u=8:=(by simp [startC,h]);clear h
      go_wp2_with (first
       |(go_at_call 22;refine (HP.out _ hbw).mono ?_;rintro e w1 ⟨rfl,hb2⟩;rw [hv];obtain ⟨d0,d1,d2⟩:=PBox.below ⟨c0,c1,c2⟩ hwr0 hb2;have hck1:=(hb2.cell (p:=⟨b,off+u,none⟩) hbwr).trans hck;have ho2:=ho.below hb2;have hs2:=Nat.le_trans hlow hb2.size)
       |(at_builtin;refine push_int rfl (.tmp 23) (.tmp 30) rfl W0.heap.size A' u c' (mapTo (startC gi 4) u) _ rfl rfl ho2 hu1 hs2 ?_;intro A5 c5 w5 ho5 hg5))
      go_roundw
      case rel=>exact ⟨u+1,_,_,by omega,by go_num,rfl,by rw [mapTo_succ,hq];exact ho5,push_below (hb.trans (hb2.mono hlow)) ho2 (Nat.le_refl _) hs2 hg5⟩
      case measure=>simp [intOf];omega
     ·rw [h] at hck;have hq:startC gi 4 u=16:=(by simp [startC,h]);clear h
      go_wp2_with (first
       |(go_at_call 22;refine (HP.out _ hbw).mono ?_;rintro e w1 ⟨rfl,hb2⟩;rw [hv];obtain ⟨d0,d1,d2⟩:=PBox.below ⟨c0,c1,c2⟩ hwr0 hb2;have hck1:=(hb2.cell (p:=⟨b,off+u,none⟩) hbwr).trans hck;have ho2:=ho.below hb2;have hs2:=Nat.le_trans hlow hb2.size)
       |(at_builtin;refine push_int rfl (.tmp 23) (.tmp 30) rfl W0.heap.size A' u c' (mapTo (startC gi 4) u) _ rfl rfl ho2 hu1 hs2 ?_;intro A5 c5 w5 ho5 hg5))
      go_roundw
      case rel=>exact ⟨u+1,_,_,by omega,by go_num,rfl,by rw [mapTo_succ,hq];exact ho5,push_below (hb.trans (hb2.mono hlow)) ho2 (Nat.le_refl _) hs2 hg5⟩
      case measure=>simp [intOf];omega
    ·obtain rfl:u=n:=by omega
     go_wp2
     go_ret
     rw [HL.out];exact retSl_mk (ho.mono (by omega)) (step hb0 hb)
theorem Ow.putN {w:World} {lo g n c:Nat} {xs:List Int} (h:Ow w lo (some ⟨g,0,none⟩) n c xs) (k:Nat) (v:Int):Ow (w.setCell ⟨g,k,none⟩ (.int .i64 v)) lo (some ⟨g,0,none⟩) n c (xs.set k v):=by
 have:=(World.ownsRow.stored h k (.int .i64 v)).1;rw [vals_set] at this;exact this
def seesB (s k i:Nat):Bool:=(k != i)&&(k/s==i/s||k%s==i%s)
def nsIn (m:List Int) (s i:Nat) (o:List Int):Nat->List Int
 |0=>o
 |k+1=>if seesB s k i=true then (nsIn m s i o k).set k (bits .andNot .i64 (nth (nsIn m s i o k) k) (nth m i)) else nsIn m s i o k
def nsTo (m:List Int) (s n:Nat):Nat->List Int
 |0=>m
 |i+1=>if (maskVals (nth m i)).length=1 then nsIn m s i (nsTo m s n i) n else nsTo m s n i
def nsL (m:List Int) (s:Int) (n:Nat):List Int:=if mvd m s=true then nsTo m s.toNat n n else []
theorem nsIn_len (m:List Int) (s i:Nat) (o:List Int) (k:Nat):(nsIn m s i o k).length=o.length:=by
 induction k with
 |zero=>rfl
 |succ k ih=>
  simp only [nsIn]
  split
  ·rw [List.length_set,ih]
  ·exact ih
theorem nsTo_len (m:List Int) (s n i:Nat):(nsTo m s n i).length=m.length:=by
 induction i with
 |zero=>rfl
 |succ i ih=>
  simp only [nsTo]
  split
  ·rw [nsIn_len,ih]
  ·exact ih
set_option maxHeartbeats 4000000 in
theorem specNarrowSingles (A:Option Addr) (c n B:Nat) (m:List Int) (s:Int) (w:World) (h:Rd w B A n m) (hB:B<=w.heap.size) (hm:n<=1099511627776) (hsb: -9223372036854775808<=s/\s<=9223372036854775807) (h64:Hid (∀ k,k<n-> -9223372036854775808<=nth m k/\nth m k<=9223372036854775807)):
 Calls Tryz.prog 127 #[.slice A n c,.int .i64 s] w (RetSl w (nsL m s n)):=by
 have hlen:=Lib.hid h.1;have HV:=Lib.hid (specMasksValid A c n B m s w h hB hm hsb);cases hv:mvd m s
 ·have HL:=Lib.hid (show nsL m s n=[] by simp [nsL,hv])
  go_enter Tryz.func127,Tryz.ntmps127
  go_wp2_with (go_at_call 107;refine HV.out.mono ?_;rintro e w1 ⟨rfl,hb1⟩;rw [hv])
  go_ret
  rw [HL.out];exact ⟨_,_,rfl,Ow.made0 _ _ hb1.size,hb1.alloc hb1.size _⟩
 ·have hs24:inr s 2 4=true:=by
   simp only [mvd,Bool.and_eq_true] at hv;exact hv.1.1
  obtain ⟨h2,h4⟩:=inr_t hs24
  have hs3:s=2\/s=3\/s=4:=by omega
  clear hs24 h2 h4;have HCp:=Lib.hid (fun w' (hb:Below w.heap.size w w')=>specL6Copy A n c B m w' (h.below (hb.mono hB)) (Nat.le_trans hB hb.size) hm)
  rcases hs3 with rfl|rfl|rfl
  ·have HL:=Lib.hid (show nsL m 2 n=nsTo m 2 n n by simp [nsL,hv]);have Hv:=Lib.hid hv;clear hv
   go_enter Tryz.func127,Tryz.ntmps127
   go_wp2_with (first
    |(go_at_call 107;refine HV.out.mono ?_;rintro e w1 ⟨rfl,hb1⟩;rw [Hv.out])
    |(go_at_call 108;refine (HCp.out _ hb1).mono ?_;rintro e w2 ⟨Ac,cc,rfl,ho2,hb2⟩))
   have hb12:=step hb1 hb2;have ho2':=ho2.mono hb1.size
   go_loopw [6] (fun i wr=>∃ u:Nat,u<=n/\i=.int .i64 u/\Ow wr w.heap.size Ac n cc (nsTo m 2 n u)/\Below w.heap.size w wr) (fun i _=>n-(intOf i).toNat)
   case atStart=>exact ⟨0,Nat.zero_le _,rfl,ho2',hb12⟩
   case round=>
    obtain ⟨u,hu,rfl,ho,hb⟩:=hrel
    by_cases hlt:u<n
    ·obtain ⟨b,off,hA,hbB,hck⟩:=(h.below (hb.mono hB)).at_ hlt;subst hA;have hbw:b<w.heap.size:=Nat.lt_of_lt_of_le hbB hB;have hbwr:b<wr.heap.size:=Nat.lt_of_lt_of_le hbw hb.size;obtain ⟨g,rfl,hgl,hgw⟩:=ho.form (by omega);have HMv:=Lib.hid (specMaskValues (nth m u) wr (h64.out u hlt));obtain ⟨q,hq⟩:∃ q,q=(maskVals (nth m u)).length:=⟨_,rfl⟩;have Hq:=Lib.hid hq;have HMv2:Hid (Calls Tryz.prog 109 #[.int .i64 (nth m u)] wr fun e w''=>∃ A3 c3,e=.returned (.slice A3 q c3)/\Below wr.heap.size wr w''):=Lib.hid (HMv.out.mono (by rintro e w'' ⟨A3,c3,rfl,_,hb3⟩;exact ⟨A3,c3,by rw [hq],hb3⟩))
     clear hq HMv;have hsw:=hb.size
     by_cases h1:q=1
     ·have hq1:((q:Int) != 1)=false:=(by simp [h1]);have Hs:=Lib.hid (show nsTo m 2 n (u+1)=nsIn m 2 u (nsTo m 2 n u) n by simp only [nsTo];rw [if_pos (by rw [<- Hq.out];exact h1)]);clear h1
      go_wp2_with (go_at_call 109;refine HMv2.out.mono ?_;rintro e w3 ⟨A3,c3,rfl,hb3⟩)
      have ho3:=ho.below hb3;have hb03:=hb.trans (hb3.mono hsw)
      go_loopw [7] (fun j wr=>∃ k:Nat,k<=n/\j=.int .i64 k/\Ow wr w.heap.size (some ⟨g,0,none⟩) n cc (nsIn m 2 u (nsTo m 2 n u) k)/\Below w.heap.size w wr) (fun j _=>n-(intOf j).toNat)
      case atStart=>exact ⟨0,Nat.zero_le _,rfl,ho3,hb03⟩
      case round=>
       clear ho3 hb03 hck;obtain ⟨k,hk,rfl,hok,hbk⟩:=hrel
       by_cases hkn:k<n
       ·have hck:wr.cell? ⟨b,off+u,none⟩=some (.int .i64 (nth m u)):=by
         obtain ⟨b',off',hA',_,hck'⟩:=(h.below (hbk.mono hB)).at_ hlt;cases hA';exact hck'
        obtain ⟨hcell,hfr⟩:=hok.cell hkn;have hsk:=hbk.size;have hput:=Lib.hid (hok.putN k (bits .andNot .i64 (nth (nsIn m 2 u (nsTo m 2 n u) k) k) (nth m u)))
        by_cases e1:k=u
        ·have f1:((k:Int) != (u:Int))=false:=(by simp [e1]);have Hk:=Lib.hid (show nsIn m 2 u (nsTo m 2 n u) (k+1)=nsIn m 2 u (nsTo m 2 n u) k by simp [nsIn,seesB,e1]);clear e1
         go_wp2
         go_quiet (fail)
         go_wp2
         go_roundw
         case rel=>exact ⟨k+1,by omega,by go_num,by rw [Hk.out];exact hok,below_drewN hbk _⟩
         case measure=>simp [intOf];omega
        ·have f1:((k:Int) != (u:Int))=true:=(by simp;omega)
         by_cases e2:k/2=u/2\/k%2=u%2
         ·have Hk:=Lib.hid (show nsIn m 2 u (nsTo m 2 n u) (k+1)=(nsIn m 2 u (nsTo m 2 n u) k).set k (bits .andNot .i64 (nth (nsIn m 2 u (nsTo m 2 n u) k) k) (nth m u)) by simp [nsIn,seesB,e1,e2])
          by_cases e3:k/2=u/2
          ·have f2:((k:Int)/2==(u:Int)/2)=true:=(by simp;omega);clear e1 e2 e3
           go_wp2
           go_quiet (fail)
           go_wp2
           go_region
           go_wp2
           go_roundw
           case rel=>exact ⟨k+1,by omega,by go_num,by rw [Hk.out];exact hput.out,Below.setCell (p:=(⟨g,k,none⟩:Addr)) (below_drewN hbk _) hgl _⟩
           case measure=>simp [intOf];omega
          ·have f2:((k:Int)/2==(u:Int)/2)=false:=(by simp;omega);have f3:((k:Int)%2==(u:Int)%2)=true:=(by simp;omega);clear e1 e2 e3
           go_wp2
           go_quiet (fail)
           go_wp2
           go_region
           go_wp2
           go_roundw
           case rel=>exact ⟨k+1,by omega,by go_num,by rw [Hk.out];exact hput.out,Below.setCell (p:=(⟨g,k,none⟩:Addr)) (below_drewN hbk _) hgl _⟩
           case measure=>simp [intOf];omega
         ·have f2:((k:Int)/2==(u:Int)/2)=false:=(by simp;omega);have f3:((k:Int)%2==(u:Int)%2)=false:=(by simp;omega)
          have Hk:=Lib.hid (show nsIn m 2 u (nsTo m 2 n u) (k+1)=nsIn m 2 u (nsTo m 2 n u) k by
           have e4:¬ k/2=u/2:=fun e=>e2 (.inl e)
           have e5:¬ k%2=u%2:=fun e=>e2 (.inr e)
           simp [nsIn,seesB,e4,e5])
          clear e1 e2
          go_wp2
          go_quiet (fail)
          go_wp2
          go_roundw
          case rel=>exact ⟨k+1,by omega,by go_num,by rw [Hk.out];exact hok,below_drewN hbk _⟩
          case measure=>simp [intOf];omega
       ·obtain rfl:k=n:=by omega
        go_wp2
        go_roundw
        case rel=>exact ⟨u+1,by omega,by go_num,by rw [Hs.out];exact hok,hbk⟩
        case measure=>simp [intOf];omega
     ·have hq1:((q:Int) != 1)=true:=(by simp;omega);have Hs:=Lib.hid (show nsTo m 2 n (u+1)=nsTo m 2 n u by simp only [nsTo];rw [if_neg (by rw [<- Hq.out];exact h1)])
      go_wp2_with (go_at_call 109;refine HMv2.out.mono ?_;rintro e w3 ⟨A3,c3,rfl,hb3⟩)
      go_roundw
      case rel=>exact ⟨u+1,by omega,by go_num,by rw [Hs.out];exact ho.below hb3,hb.trans (hb3.mono hsw)⟩
      case measure=>simp [intOf];omega
    ·obtain rfl:u=n:=by omega
     go_wp2
     go_ret
     rw [HL.out];have hnl:=Lib.hid (nsTo_len m 2 u u);exact ⟨_,_,by rw [hnl.out,hlen.out];rfl,by rw [hnl.out,hlen.out];exact ho,hb⟩
  ·have HL:=Lib.hid (show nsL m 3 n=nsTo m 3 n n by simp [nsL,hv]);have Hv:=Lib.hid hv;clear hv
   go_enter Tryz.func127,Tryz.ntmps127
   go_wp2_with (first
    |(go_at_call 107;refine HV.out.mono ?_;rintro e w1 ⟨rfl,hb1⟩;rw [Hv.out])
    |(go_at_call 108;refine (HCp.out _ hb1).mono ?_;rintro e w2 ⟨Ac,cc,rfl,ho2,hb2⟩))
   have hb12:=step hb1 hb2;have ho2':=ho2.mono hb1.size
   go_loopw [6] (fun i wr=>∃ u:Nat,u<=n/\i=.int .i64 u/\Ow wr w.heap.size Ac n cc (nsTo m 3 n u)/\Below w.heap.size w wr) (fun i _=>n-(intOf i).toNat)
   case atStart=>exact ⟨0,Nat.zero_le _,rfl,ho2',hb12⟩
   case round=>
    obtain ⟨u,hu,rfl,ho,hb⟩:=hrel
    by_cases hlt:u<n
    ·obtain ⟨b,off,hA,hbB,hck⟩:=(h.below (hb.mono hB)).at_ hlt;subst hA;have hbw:b<w.heap.size:=Nat.lt_of_lt_of_le hbB hB;have hbwr:b<wr.heap.size:=Nat.lt_of_lt_of_le hbw hb.size;obtain ⟨g,rfl,hgl,hgw⟩:=ho.form (by omega);have HMv:=Lib.hid (specMaskValues (nth m u) wr (h64.out u hlt));obtain ⟨q,hq⟩:∃ q,q=(maskVals (nth m u)).length:=⟨_,rfl⟩;have Hq:=Lib.hid hq;have HMv2:Hid (Calls Tryz.prog 109 #[.int .i64 (nth m u)] wr fun e w''=>∃ A3 c3,e=.returned (.slice A3 q c3)/\Below wr.heap.size wr w''):=Lib.hid (HMv.out.mono (by rintro e w'' ⟨A3,c3,rfl,_,hb3⟩;exact ⟨A3,c3,by rw [hq],hb3⟩))
     clear hq HMv;have hsw:=hb.size
     by_cases h1:q=1
     ·have hq1:((q:Int) != 1)=false:=(by simp [h1]);have Hs:=Lib.hid (show nsTo m 3 n (u+1)=nsIn m 3 u (nsTo m 3 n u) n by simp only [nsTo];rw [if_pos (by rw [<- Hq.out];exact h1)]);clear h1
      go_wp2_with (go_at_call 109;refine HMv2.out.mono ?_;rintro e w3 ⟨A3,c3,rfl,hb3⟩)
      have ho3:=ho.below hb3;have hb03:=hb.trans (hb3.mono hsw)
      go_loopw [7] (fun j wr=>∃ k:Nat,k<=n/\j=.int .i64 k/\Ow wr w.heap.size (some ⟨g,0,none⟩) n cc (nsIn m 3 u (nsTo m 3 n u) k)/\Below w.heap.size w wr) (fun j _=>n-(intOf j).toNat)
      case atStart=>exact ⟨0,Nat.zero_le _,rfl,ho3,hb03⟩
      case round=>
       clear ho3 hb03 hck;obtain ⟨k,hk,rfl,hok,hbk⟩:=hrel
       by_cases hkn:k<n
       ·have hck:wr.cell? ⟨b,off+u,none⟩=some (.int .i64 (nth m u)):=by
         obtain ⟨b',off',hA',_,hck'⟩:=(h.below (hbk.mono hB)).at_ hlt;cases hA';exact hck'
        obtain ⟨hcell,hfr⟩:=hok.cell hkn;have hsk:=hbk.size;have hput:=Lib.hid (hok.putN k (bits .andNot .i64 (nth (nsIn m 3 u (nsTo m 3 n u) k) k) (nth m u)))
        by_cases e1:k=u
        ·have f1:((k:Int) != (u:Int))=false:=(by simp [e1]);have Hk:=Lib.hid (show nsIn m 3 u (nsTo m 3 n u) (k+1)=nsIn m 3 u (nsTo m 3 n u) k by simp [nsIn,seesB,e1]);clear e1
         go_wp2
         go_quiet (fail)
         go_wp2
         go_roundw
         case rel=>exact ⟨k+1,by omega,by go_num,by rw [Hk.out];exact hok,below_drewN hbk _⟩
         case measure=>simp [intOf];omega
        ·have f1:((k:Int) != (u:Int))=true:=(by simp;omega)
         by_cases e2:k/3=u/3\/k%3=u%3
         ·have Hk:=Lib.hid (show nsIn m 3 u (nsTo m 3 n u) (k+1)=(nsIn m 3 u (nsTo m 3 n u) k).set k (bits .andNot .i64 (nth (nsIn m 3 u (nsTo m 3 n u) k) k) (nth m u)) by simp [nsIn,seesB,e1,e2])
          by_cases e3:k/3=u/3
          ·have f2:((k:Int)/3==(u:Int)/3)=true:=(by simp;omega);clear e1 e2 e3
           go_wp2
           go_quiet (fail)
           go_wp2
           go_region
           go_wp2
           go_roundw
           case rel=>exact ⟨k+1,by omega,by go_num,by rw [Hk.out];exact hput.out,Below.setCell (p:=(⟨g,k,none⟩:Addr)) (below_drewN hbk _) hgl _⟩
           case measure=>simp [intOf];omega
          ·have f2:((k:Int)/3==(u:Int)/3)=false:=(by simp;omega);have f3:((k:Int)%3==(u:Int)%3)=true:=(by simp;omega);clear e1 e2 e3
           go_wp2
           go_quiet (fail)
           go_wp2
           go_region
           go_wp2
           go_roundw
           case rel=>exact ⟨k+1,by omega,by go_num,by rw [Hk.out];exact hput.out,Below.setCell (p:=(⟨g,k,none⟩:Addr)) (below_drewN hbk _) hgl _⟩
           case measure=>simp [intOf];omega
         ·have f2:((k:Int)/3==(u:Int)/3)=false:=(by simp;omega);have f3:((k:Int)%3==(u:Int)%3)=false:=(by simp;omega)
          have Hk:=Lib.hid (show nsIn m 3 u (nsTo m 3 n u) (k+1)=nsIn m 3 u (nsTo m 3 n u) k by
           have e4:¬ k/3=u/3:=fun e=>e2 (.inl e)
           have e5:¬ k%3=u%3:=fun e=>e2 (.inr e)
           simp [nsIn,seesB,e4,e5])
          clear e1 e2
          go_wp2
          go_quiet (fail)
          go_wp2
          go_roundw
          case rel=>exact ⟨k+1,by omega,by go_num,by rw [Hk.out];exact hok,below_drewN hbk _⟩
          case measure=>simp [intOf];omega
       ·obtain rfl:k=n:=by omega
        go_wp2
        go_roundw
        case rel=>exact ⟨u+1,by omega,by go_num,by rw [Hs.out];exact hok,hbk⟩
        case measure=>simp [intOf];omega
     ·have hq1:((q:Int) != 1)=true:=(by simp;omega);have Hs:=Lib.hid (show nsTo m 3 n (u+1)=nsTo m 3 n u by simp only [nsTo];rw [if_neg (by rw [<- Hq.out];exact h1)])
      go_wp2_with (go_at_call 109;refine HMv2.out.mono ?_;rintro e w3 ⟨A3,c3,rfl,hb3⟩)
      go_roundw
      case rel=>exact ⟨u+1,by omega,by go_num,by rw [Hs.out];exact ho.below hb3,hb.trans (hb3.mono hsw)⟩
      case measure=>simp [intOf];omega
    ·obtain rfl:u=n:=by omega
     go_wp2
     go_ret
     rw [HL.out];have hnl:=Lib.hid (nsTo_len m 3 u u);exact ⟨_,_,by rw [hnl.out,hlen.out];rfl,by rw [hnl.out,hlen.out];exact ho,hb⟩
  ·have HL:=Lib.hid (show nsL m 4 n=nsTo m 4 n n by simp [nsL,hv]);have Hv:=Lib.hid hv;clear hv
   go_enter Tryz.func127,Tryz.ntmps127
   go_wp2_with (first
    |(go_at_call 107;refine HV.out.mono ?_;rintro e w1 ⟨rfl,hb1⟩;rw [Hv.out])
    |(go_at_call 108;refine (HCp.out _ hb1).mono ?_;rintro e w2 ⟨Ac,cc,rfl,ho2,hb2⟩))
   have hb12:=step hb1 hb2;have ho2':=ho2.mono hb1.size
   go_loopw [6] (fun i wr=>∃ u:Nat,u<=n/\i=.int .i64 u/\Ow wr w.heap.size Ac n cc (nsTo m 4 n u)/\Below w.heap.size w wr) (fun i _=>n-(intOf i).toNat)
   case atStart=>exact ⟨0,Nat.zero_le _,rfl,ho2',hb12⟩
   case round=>
    obtain ⟨u,hu,rfl,ho,hb⟩:=hrel
    by_cases hlt:u<n
    ·obtain ⟨b,off,hA,hbB,hck⟩:=(h.below (hb.mono hB)).at_ hlt;subst hA;have hbw:b<w.heap.size:=Nat.lt_of_lt_of_le hbB hB;have hbwr:b<wr.heap.size:=Nat.lt_of_lt_of_le hbw hb.size;obtain ⟨g,rfl,hgl,hgw⟩:=ho.form (by omega);have HMv:=Lib.hid (specMaskValues (nth m u) wr (h64.out u hlt));obtain ⟨q,hq⟩:∃ q,q=(maskVals (nth m u)).length:=⟨_,rfl⟩;have Hq:=Lib.hid hq;have HMv2:Hid (Calls Tryz.prog 109 #[.int .i64 (nth m u)] wr fun e w''=>∃ A3 c3,e=.returned (.slice A3 q c3)/\Below wr.heap.size wr w''):=Lib.hid (HMv.out.mono (by rintro e w'' ⟨A3,c3,rfl,_,hb3⟩;exact ⟨A3,c3,by rw [hq],hb3⟩))
     clear hq HMv;have hsw:=hb.size
     by_cases h1:q=1
     ·have hq1:((q:Int) != 1)=false:=(by simp [h1]);have Hs:=Lib.hid (show nsTo m 4 n (u+1)=nsIn m 4 u (nsTo m 4 n u) n by simp only [nsTo];rw [if_pos (by rw [<- Hq.out];exact h1)]);clear h1
      go_wp2_with (go_at_call 109;refine HMv2.out.mono ?_;rintro e w3 ⟨A3,c3,rfl,hb3⟩)
      have ho3:=ho.below hb3;have hb03:=hb.trans (hb3.mono hsw)
      go_loopw [7] (fun j wr=>∃ k:Nat,k<=n/\j=.int .i64 k/\Ow wr w.heap.size (some ⟨g,0,none⟩) n cc (nsIn m 4 u (nsTo m 4 n u) k)/\Below w.heap.size w wr) (fun j _=>n-(intOf j).toNat)
      case atStart=>exact ⟨0,Nat.zero_le _,rfl,ho3,hb03⟩
      case round=>
       clear ho3 hb03 hck;obtain ⟨k,hk,rfl,hok,hbk⟩:=hrel
       by_cases hkn:k<n
       ·have hck:wr.cell? ⟨b,off+u,none⟩=some (.int .i64 (nth m u)):=by
         obtain ⟨b',off',hA',_,hck'⟩:=(h.below (hbk.mono hB)).at_ hlt;cases hA';exact hck'
        obtain ⟨hcell,hfr⟩:=hok.cell hkn;have hsk:=hbk.size;have hput:=Lib.hid (hok.putN k (bits .andNot .i64 (nth (nsIn m 4 u (nsTo m 4 n u) k) k) (nth m u)))
        by_cases e1:k=u
        ·have f1:((k:Int) != (u:Int))=false:=(by simp [e1]);have Hk:=Lib.hid (show nsIn m 4 u (nsTo m 4 n u) (k+1)=nsIn m 4 u (nsTo m 4 n u) k by simp [nsIn,seesB,e1]);clear e1
         go_wp2
         go_quiet (fail)
         go_wp2
         go_roundw
         case rel=>exact ⟨k+1,by omega,by go_num,by rw [Hk.out];exact hok,below_drewN hbk _⟩
         case measure=>simp [intOf];omega
        ·have f1:((k:Int) != (u:Int))=true:=(by simp;omega)
         by_cases e2:k/4=u/4\/k%4=u%4
         ·have Hk:=Lib.hid (show nsIn m 4 u (nsTo m 4 n u) (k+1)=(nsIn m 4 u (nsTo m 4 n u) k).set k (bits .andNot .i64 (nth (nsIn m 4 u (nsTo m 4 n u) k) k) (nth m u)) by simp [nsIn,seesB,e1,e2])
          by_cases e3:k/4=u/4
          ·have f2:((k:Int)/4==(u:Int)/4)=true:=(by simp;omega);clear e1 e2 e3
           go_wp2
           go_quiet (fail)
           go_wp2
           go_region
           go_wp2
           go_roundw
           case rel=>exact ⟨k+1,by omega,by go_num,by rw [Hk.out];exact hput.out,Below.setCell (p:=(⟨g,k,none⟩:Addr)) (below_drewN hbk _) hgl _⟩
           case measure=>simp [intOf];omega
          ·have f2:((k:Int)/4==(u:Int)/4)=false:=(by simp;omega);have f3:((k:Int)%4==(u:Int)%4)=true:=(by simp;omega);clear e1 e2 e3
           go_wp2
           go_quiet (fail)
           go_wp2
           go_region
           go_wp2
           go_roundw
           case rel=>exact ⟨k+1,by omega,by go_num,by rw [Hk.out];exact hput.out,Below.setCell (p:=(⟨g,k,none⟩:Addr)) (below_drewN hbk _) hgl _⟩
           case measure=>simp [intOf];omega
         ·have f2:((k:Int)/4==(u:Int)/4)=false:=(by simp;omega);have f3:((k:Int)%4==(u:Int)%4)=false:=(by simp;omega)
          have Hk:=Lib.hid (show nsIn m 4 u (nsTo m 4 n u) (k+1)=nsIn m 4 u (nsTo m 4 n u) k by
           have e4:¬ k/4=u/4:=fun e=>e2 (.inl e)
           have e5:¬ k%4=u%4:=fun e=>e2 (.inr e)
           simp [nsIn,seesB,e4,e5])
          clear e1 e2
          go_wp2
          go_quiet (fail)
          go_wp2
          go_roundw
          case rel=>exact ⟨k+1,by omega,by go_num,by rw [Hk.out];exact hok,below_drewN hbk _⟩
          case measure=>simp [intOf];omega
       ·obtain rfl:k=n:=by omega
        go_wp2
        go_roundw
        case rel=>exact ⟨u+1,by omega,by go_num,by rw [Hs.out];exact hok,hbk⟩
        case measure=>simp [intOf];omega
     ·have hq1:((q:Int) != 1)=true:=(by simp;omega);have Hs:=Lib.hid (show nsTo m 4 n (u+1)=nsTo m 4 n u by simp only [nsTo];rw [if_neg (by rw [<- Hq.out];exact h1)])
      go_wp2_with (go_at_call 109;refine HMv2.out.mono ?_;rintro e w3 ⟨A3,c3,rfl,hb3⟩)
      go_roundw
      case rel=>exact ⟨u+1,by omega,by go_num,by rw [Hs.out];exact ho.below hb3,hb.trans (hb3.mono hsw)⟩
      case measure=>simp [intOf];omega
    ·obtain rfl:u=n:=by omega
     go_wp2
     go_ret
     rw [HL.out];have hnl:=Lib.hid (nsTo_len m 4 u u);exact ⟨_,_,by rw [hnl.out,hlen.out];rfl,by rw [hnl.out,hlen.out];exact ho,hb⟩
def hB (m:List Int) (S u:Int) (v k:Nat):Bool:=(nth m (lineAt S u k).toNat).toNat.testBit v
def hC (m:List Int) (S u:Int) (v:Nat):Nat->Nat
 |0=>0
 |k+1=>if hB m S u v k=true then hC m S u v k+1 else hC m S u v k
def hL (m:List Int) (S u:Int) (v:Nat):Nat->Nat
 |0=>0
 |k+1=>if hB m S u v k=true then (lineAt S u k).toNat else hL m S u v k
def hVs (m:List Int) (S:Int) (N:Nat) (u:Int) (o:List Int):Nat->List Int
 |0=>o
 |r+1=>if hC m S u (r+1) N=1 then (hVs m S N u o r).set (hL m S u (r+1) N) (bits .and .i64 (nth (hVs m S N u o r) (hL m S u (r+1) N)) (2^(r+1))) else hVs m S N u o r
def hU (m:List Int) (S:Int) (N:Nat):Nat->List Int
 |0=>m
 |u+1=>hVs m S N u (hU m S N u) N
def nhL (m:List Int) (S:Int):List Int:=if mvd m S=true then hU m S S.toNat (2*S.toNat) else []
theorem hC_le (m:List Int) (S u:Int) (v k:Nat):hC m S u v k<=k:=by
 induction k with
 |zero=>exact Nat.le_refl _
 |succ k ih=>simp only [hC];split<;>omega
theorem hL_lt {m:List Int} {S u:Int} {v n k:Nat} (h:∀ j,j<k->(lineAt S u j).toNat<n) (h0:0<n):hL m S u v k<n:=by
 induction k with
 |zero=>exact h0
 |succ k ih=>
  simp only [hL]
  split
  ·exact h k (by omega)
  ·exact ih (fun j hj=>h j (by omega))
theorem hVs_len (m:List Int) (S:Int) (N:Nat) (u:Int) (o:List Int) (r:Nat):(hVs m S N u o r).length=o.length:=by
 induction r with
 |zero=>rfl
 |succ r ih=>
  simp only [hVs]
  split
  ·rw [List.length_set,ih]
  ·exact ih
theorem hU_len (m:List Int) (S:Int) (N u:Nat):(hU m S N u).length=m.length:=by
 induction u with
 |zero=>rfl
 |succ u ih=>simp only [hU];rw [hVs_len,ih]
theorem pow_wrap5 {r:Nat} (h:r<4):wrap64 ((2:Int)^(r+1))=2^(r+1):=by
 have:r=0\/r=1\/r=2\/r=3:=by omega
 rcases this with rfl|rfl|rfl|rfl<;>exact IntWalk.wrap64_in _ ⟨by decide,by decide⟩
set_option maxHeartbeats 8000000 in
theorem specNarrowHidden (A:Option Addr) (c n B:Nat) (m:List Int) (s:Int) (w:World) (h:Rd w B A n m) (hB':B<=w.heap.size) (hm:n<=1099511627776) (hsb: -9223372036854775808<=s/\s<=9223372036854775807):
 Calls Tryz.prog 128 #[.slice A n c,.int .i64 s] w (RetSl w (nhL m s)):=by
 have hlen:=Lib.hid h.1;have HV:=Lib.hid (specMasksValid A c n B m s w h hB' hm hsb);cases hv:mvd m s
 ·have HL:=Lib.hid (show nhL m s=[] by simp [nhL,hv])
  go_enter Tryz.func128,Tryz.ntmps128
  go_wp2_with (go_at_call 107;refine HV.out.mono ?_;rintro e w1 ⟨rfl,hb1⟩;rw [hv])
  go_ret
  rw [HL.out];exact ⟨_,_,rfl,Ow.made0 _ _ hb1.size,hb1.alloc hb1.size _⟩
 ·obtain ⟨⟨h2,h4⟩,hsq,hn16,hrng⟩:=mvd_at hv;rw [hlen.out] at hsq hn16 hrng
  have hs3:s=2\/s=3\/s=4:=by omega
  clear h2 h4;have HCp:=Lib.hid (fun w' (hb:Below w.heap.size w w')=>specL6Copy A n c B m w' (h.below (hb.mono hB')) (Nat.le_trans hB' hb.size) hm);have Hrng:=Lib.hid (fun k (hk:k<n)=>(hrng k hk).1);clear hrng
  rcases hs3 with rfl|rfl|rfl
  ·obtain rfl:n=4:=by omega
   have HL:=Lib.hid (show nhL m 2=hU m 2 2 (2*2) by simp [nhL,hv]);have Hv:=Lib.hid hv;clear hv
   go_enter Tryz.func128,Tryz.ntmps128
   go_wp2_with (first
    |(go_at_call 107;refine HV.out.mono ?_;rintro e w1 ⟨rfl,hb1⟩;rw [Hv.out])
    |(go_at_call 108;refine (HCp.out _ hb1).mono ?_;rintro e w2 ⟨Ac,cc,rfl,ho2,hb2⟩))
   have hb12:=step hb1 hb2;have ho2':=ho2.mono hb1.size;obtain ⟨g,rfl,hgl,hgw⟩:=ho2'.form (by omega)
   go_loopw [6] (fun i wr=>∃ u:Nat,u<=2*2/\i=.int .i64 u/\Ow wr w.heap.size (some ⟨g,0,none⟩) 4 cc (hU m 2 2 u)/\Below w.heap.size w wr) (fun i _=>2*2-(intOf i).toNat)
   case atStart=>exact ⟨0,Nat.zero_le _,rfl,ho2',hb12⟩
   case round=>
    obtain ⟨u,hu,rfl,ho,hb⟩:=hrel
    by_cases hlt:u<2*2
    ·have hltI:(u:Int)<2*2:=(by omega);have hgr:=ho.own_hi g rfl
     have hat:Hid (∀ j,j<2->∃ q:Nat,lineAt 2 u j=(q:Int)/\q<4):=Lib.hid (fun j hj=>by
      by_cases hx:(u:Int)<2
      ·rw [lineAt_row hx];exact ⟨u*2+j,by omega,by omega⟩
      ·rw [lineAt_col hx]
       exact ⟨j*2+u-2,by omega,by omega⟩)
     have hsw:=hb.size
     have HLc:Hid (Calls Tryz.prog 157 #[.int .i64 2,.int .i64 u] wr fun e w''=>∃ g3 c3,e=.returned (.slice (some ⟨g3,0,none⟩) 2 c3)/\Ow w'' wr.heap.size (some ⟨g3,0,none⟩) 2 c3 (lineTo 2 u 2)/\Below wr.heap.size wr w''):=Lib.hid ((specLineCells 2 u wr ⟨by omega,by omega⟩).mono (by
      rintro e w'' ⟨A3,c3,rfl,ho3,hb3⟩
      have e1:lineL 2 u=lineTo 2 u 2:=by
       have:lineOk 2 u=true:=(by simp [lineOk,inr];omega)
       simp [lineL,this]
      rw [e1,lineTo_length] at ho3;rw [e1,lineTo_length];obtain ⟨g3,rfl,_,_⟩:=ho3.form (by omega)
      exact ⟨g3,c3,rfl,ho3,hb3⟩))
     go_wp2_with (go_at_call 157;refine HLc.out.mono ?_;rintro e w3 ⟨g3,c3,rfl,ho3,hb3⟩)
     have hg3:=ho3.own_lo g3 rfl;have hoA:=ho.below hb3;have hbA:=hb.trans (hb3.mono hsw)
     go_loopw [8] (fun i wr=>∃ r:Nat,r<=2/\i=.int .i64 ((r:Int)+1)/\Ow wr w.heap.size (some ⟨g,0,none⟩) 4 cc (hVs m 2 2 u (hU m 2 2 u) r)/\Ow wr (g+1) (some ⟨g3,0,none⟩) 2 c3 (lineTo 2 u 2)/\Below w.heap.size w wr) (fun i _=>2+1-(intOf i).toNat)
     case atStart=>exact ⟨0,Nat.zero_le _,by simp,hoA,ho3.mono (by omega),hbA⟩
     case round=>
      clear ho3 hoA hbA hb3 ho hb hsw HLc;obtain ⟨r,hr,rfl,ho,ho3,hb⟩:=hrel
      by_cases hrT:r<2
      ·have hrI:(r:Int)+1<=2:=(by omega);have hmr:=(h.below (hb.mono hB'))
       go_wp2
       obtain ⟨WR,hWR⟩:∃ WR,WR=wr:=⟨_,rfl⟩;rw [<- hWR];rw [<- hWR] at ho ho3 hb hmr;clear hWR
       go_loopw [9,10,11] (fun cn la i wr=>wr=WR/\∃ k:Nat,k<=2/\i=.int .i64 k/\cn=.int .i64 (hC m 2 u (r+1) k:Nat)/\la=.int .i64 (hL m 2 u (r+1) k:Nat)) (fun _ _ i _=>2-(intOf i).toNat)
       case atStart=>exact ⟨rfl,0,Nat.zero_le _,rfl,rfl,rfl⟩
       case round=>
        obtain ⟨rfl,k,hk,rfl,rfl,rfl⟩:=hrel
        by_cases hkT:k<2
        ·have hkI:(k:Int)<2:=(by omega);obtain ⟨q,hq,hqn⟩:=hat.out k hkT;obtain ⟨hc3,_⟩:=ho3.cell hkT;rw [show nth (lineTo 2 u 2) k=(q:Int) by rw [<- hq];simp [lineTo,nth,List.getD_eq_getElem?_getD,hkT]] at hc3;obtain ⟨b,off,hA,hbB,hck⟩:=hmr.at_ hqn;subst hA;obtain ⟨M,hM⟩:=Int.eq_ofNat_of_zero_le (Hrng.out q hqn);rw [hM] at hck;have hsh:=shr_bit M (r+1);have hcl:=hC_le m 2 u (r+1) k;have hbit:hB m 2 u (r+1) k=M.testBit (r+1):=(by simp only [hB,hq,Int.toNat_natCast];rw [hM];simp);cases hh:M.testBit (r+1)
         ·rw [hh] at hsh hbit;have H1:=Lib.hid (show hC m 2 u (r+1) (k+1)=hC m 2 u (r+1) k by simp [hC,hbit]);have H2:=Lib.hid (show hL m 2 u (r+1) (k+1)=hL m 2 u (r+1) k by simp [hL,hbit]);clear hh hbit hM hq
          go_wp2
          go_roundw
          case rel=>exact ⟨by trivial,k+1,by omega,by go_num,by rw [H1.out],by rw [H2.out]⟩
          case measure=>simp [intOf];omega
         ·rw [hh] at hsh hbit;have H1:=Lib.hid (show hC m 2 u (r+1) (k+1)=hC m 2 u (r+1) k+1 by simp [hC,hbit]);have H2:=Lib.hid (show hL m 2 u (r+1) (k+1)=q by simp [hL,hbit,hq]);clear hh hbit hM hq
          go_wp2
          go_roundw
          case rel=>exact ⟨by trivial,k+1,by omega,by go_num,by rw [H1.out];simp,by rw [H2.out]⟩
          case measure=>simp [intOf];omega
        ·obtain rfl:k=2:=by omega
         obtain ⟨q,hq⟩:∃ q,hC m 2 u (r+1) 2=q:=⟨_,rfl⟩;obtain ⟨l,hl⟩:∃ l,hL m 2 u (r+1) 2=l:=⟨_,rfl⟩
         have hln:l<4:=by
          rw [<- hl];exact hL_lt (fun j hj=>by obtain ⟨q,hq,hqn⟩:=hat.out j hj;rw [hq];simpa using hqn) (by omega)
         have Hq:=Lib.hid hq;have Hl:=Lib.hid hl;rw [hq,hl];clear hq hl
         by_cases h1:q=1
         ·have H3:=Lib.hid (show hVs m 2 2 u (hU m 2 2 u) (r+1)=(hVs m 2 2 u (hU m 2 2 u) r).set l (bits .and .i64 (nth (hVs m 2 2 u (hU m 2 2 u) r) l) (2^(r+1))) by simp only [hVs];rw [Hq.out,Hl.out,if_pos h1]);have h1I:((q:Int)==1)=true:=(by simp [h1]);clear h1;obtain ⟨hcell,hfr⟩:=ho.cell hln;have hput:=Lib.hid (ho.putN l (bits .and .i64 (nth (hVs m 2 2 u (hU m 2 2 u) r) l) (2^(r+1))));have ho3p:=Lib.hid (ho3.far (row:=some g) (grown_set (w:=wr) (G:=g) (i:=l) (v:=.int .i64 (bits .and .i64 (nth (hVs m 2 2 u (hU m 2 2 u) r) l) (2^(r+1))))) (fun b hb e=>by have:=ho3.own_lo b hb;injection e with e;omega))
          have hw2:wrap64 ((2:Int)^(r+1))=2^(r+1):=pow_wrap5 (by omega)
          go_wp2
          go_region
          go_wp2
          go_roundw
          case rel=>exact ⟨r+1,by omega,by go_num,by rw [H3.out];exact hput.out,ho3p.out,below_drewN (Below.setCell (p:=(⟨g,l,none⟩:Addr)) hb hgl _) 1⟩
          case measure=>simp [intOf];omega
         ·have H3:=Lib.hid (show hVs m 2 2 u (hU m 2 2 u) (r+1)=hVs m 2 2 u (hU m 2 2 u) r by simp only [hVs];rw [Hq.out,if_neg h1]);have h1I:((q:Int)==1)=false:=(by simp;omega);clear h1
          go_wp2
          go_roundw
          case rel=>exact ⟨r+1,by omega,by go_num,by rw [H3.out];exact ho,ho3,hb⟩
          case measure=>simp [intOf];omega
      ·obtain rfl:r=2:=by omega
       go_wp2
       go_roundw
       case rel=>exact ⟨u+1,by omega,by go_num,ho,hb⟩
       case measure=>simp [intOf];omega
    ·obtain rfl:u=2*2:=by omega
     go_wp2
     go_ret
     rw [HL.out];have hnl:=Lib.hid (hU_len m 2 2 (2*2));exact ⟨_,_,by rw [hnl.out,hlen.out];rfl,by rw [hnl.out,hlen.out];exact ho,hb⟩
  ·obtain rfl:n=9:=by omega
   have HL:=Lib.hid (show nhL m 3=hU m 3 3 (2*3) by simp [nhL,hv]);have Hv:=Lib.hid hv;clear hv
   go_enter Tryz.func128,Tryz.ntmps128
   go_wp2_with (first
    |(go_at_call 107;refine HV.out.mono ?_;rintro e w1 ⟨rfl,hb1⟩;rw [Hv.out])
    |(go_at_call 108;refine (HCp.out _ hb1).mono ?_;rintro e w2 ⟨Ac,cc,rfl,ho2,hb2⟩))
   have hb12:=step hb1 hb2;have ho2':=ho2.mono hb1.size;obtain ⟨g,rfl,hgl,hgw⟩:=ho2'.form (by omega)
   go_loopw [6] (fun i wr=>∃ u:Nat,u<=2*3/\i=.int .i64 u/\Ow wr w.heap.size (some ⟨g,0,none⟩) 9 cc (hU m 3 3 u)/\Below w.heap.size w wr) (fun i _=>2*3-(intOf i).toNat)
   case atStart=>exact ⟨0,Nat.zero_le _,rfl,ho2',hb12⟩
   case round=>
    obtain ⟨u,hu,rfl,ho,hb⟩:=hrel
    by_cases hlt:u<2*3
    ·have hltI:(u:Int)<2*3:=(by omega);have hgr:=ho.own_hi g rfl
     have hat:Hid (∀ j,j<3->∃ q:Nat,lineAt 3 u j=(q:Int)/\q<9):=Lib.hid (fun j hj=>by
      by_cases hx:(u:Int)<3
      ·rw [lineAt_row hx];exact ⟨u*3+j,by omega,by omega⟩
      ·rw [lineAt_col hx]
       exact ⟨j*3+u-3,by omega,by omega⟩)
     have hsw:=hb.size
     have HLc:Hid (Calls Tryz.prog 157 #[.int .i64 3,.int .i64 u] wr fun e w''=>∃ g3 c3,e=.returned (.slice (some ⟨g3,0,none⟩) 3 c3)/\Ow w'' wr.heap.size (some ⟨g3,0,none⟩) 3 c3 (lineTo 3 u 3)/\Below wr.heap.size wr w''):=Lib.hid ((specLineCells 3 u wr ⟨by omega,by omega⟩).mono (by
      rintro e w'' ⟨A3,c3,rfl,ho3,hb3⟩
      have e1:lineL 3 u=lineTo 3 u 3:=by
       have:lineOk 3 u=true:=(by simp [lineOk,inr];omega)
       simp [lineL,this]
      rw [e1,lineTo_length] at ho3;rw [e1,lineTo_length];obtain ⟨g3,rfl,_,_⟩:=ho3.form (by omega)
      exact ⟨g3,c3,rfl,ho3,hb3⟩))
     go_wp2_with (go_at_call 157;refine HLc.out.mono ?_;rintro e w3 ⟨g3,c3,rfl,ho3,hb3⟩)
     have hg3:=ho3.own_lo g3 rfl;have hoA:=ho.below hb3;have hbA:=hb.trans (hb3.mono hsw)
     go_loopw [8] (fun i wr=>∃ r:Nat,r<=3/\i=.int .i64 ((r:Int)+1)/\Ow wr w.heap.size (some ⟨g,0,none⟩) 9 cc (hVs m 3 3 u (hU m 3 3 u) r)/\Ow wr (g+1) (some ⟨g3,0,none⟩) 3 c3 (lineTo 3 u 3)/\Below w.heap.size w wr) (fun i _=>3+1-(intOf i).toNat)
     case atStart=>exact ⟨0,Nat.zero_le _,by simp,hoA,ho3.mono (by omega),hbA⟩
     case round=>
      clear ho3 hoA hbA hb3 ho hb hsw HLc;obtain ⟨r,hr,rfl,ho,ho3,hb⟩:=hrel
      by_cases hrT:r<3
      ·have hrI:(r:Int)+1<=3:=(by omega);have hmr:=(h.below (hb.mono hB'))
       go_wp2
       obtain ⟨WR,hWR⟩:∃ WR,WR=wr:=⟨_,rfl⟩;rw [<- hWR];rw [<- hWR] at ho ho3 hb hmr;clear hWR
       go_loopw [9,10,11] (fun cn la i wr=>wr=WR/\∃ k:Nat,k<=3/\i=.int .i64 k/\cn=.int .i64 (hC m 3 u (r+1) k:Nat)/\la=.int .i64 (hL m 3 u (r+1) k:Nat)) (fun _ _ i _=>3-(intOf i).toNat)
       case atStart=>exact ⟨rfl,0,Nat.zero_le _,rfl,rfl,rfl⟩
       case round=>
        obtain ⟨rfl,k,hk,rfl,rfl,rfl⟩:=hrel
        by_cases hkT:k<3
        ·have hkI:(k:Int)<3:=(by omega);obtain ⟨q,hq,hqn⟩:=hat.out k hkT;obtain ⟨hc3,_⟩:=ho3.cell hkT;rw [show nth (lineTo 3 u 3) k=(q:Int) by rw [<- hq];simp [lineTo,nth,List.getD_eq_getElem?_getD,hkT]] at hc3;obtain ⟨b,off,hA,hbB,hck⟩:=hmr.at_ hqn;subst hA;obtain ⟨M,hM⟩:=Int.eq_ofNat_of_zero_le (Hrng.out q hqn);rw [hM] at hck;have hsh:=shr_bit M (r+1);have hcl:=hC_le m 3 u (r+1) k;have hbit:hB m 3 u (r+1) k=M.testBit (r+1):=(by simp only [hB,hq,Int.toNat_natCast];rw [hM];simp);cases hh:M.testBit (r+1)
         ·rw [hh] at hsh hbit;have H1:=Lib.hid (show hC m 3 u (r+1) (k+1)=hC m 3 u (r+1) k by simp [hC,hbit]);have H2:=Lib.hid (show hL m 3 u (r+1) (k+1)=hL m 3 u (r+1) k by simp [hL,hbit]);clear hh hbit hM hq
          go_wp2
          go_roundw
          case rel=>exact ⟨by trivial,k+1,by omega,by go_num,by rw [H1.out],by rw [H2.out]⟩
          case measure=>simp [intOf];omega
         ·rw [hh] at hsh hbit;have H1:=Lib.hid (show hC m 3 u (r+1) (k+1)=hC m 3 u (r+1) k+1 by simp [hC,hbit]);have H2:=Lib.hid (show hL m 3 u (r+1) (k+1)=q by simp [hL,hbit,hq]);clear hh hbit hM hq
          go_wp2
          go_roundw
          case rel=>exact ⟨by trivial,k+1,by omega,by go_num,by rw [H1.out];simp,by rw [H2.out]⟩
          case measure=>simp [intOf];omega
        ·obtain rfl:k=3:=by omega
         obtain ⟨q,hq⟩:∃ q,hC m 3 u (r+1) 3=q:=⟨_,rfl⟩;obtain ⟨l,hl⟩:∃ l,hL m 3 u (r+1) 3=l:=⟨_,rfl⟩
         have hln:l<9:=by
          rw [<- hl];exact hL_lt (fun j hj=>by obtain ⟨q,hq,hqn⟩:=hat.out j hj;rw [hq];simpa using hqn) (by omega)
         have Hq:=Lib.hid hq;have Hl:=Lib.hid hl;rw [hq,hl];clear hq hl
         by_cases h1:q=1
         ·have H3:=Lib.hid (show hVs m 3 3 u (hU m 3 3 u) (r+1)=(hVs m 3 3 u (hU m 3 3 u) r).set l (bits .and .i64 (nth (hVs m 3 3 u (hU m 3 3 u) r) l) (2^(r+1))) by simp only [hVs];rw [Hq.out,Hl.out,if_pos h1]);have h1I:((q:Int)==1)=true:=(by simp [h1]);clear h1;obtain ⟨hcell,hfr⟩:=ho.cell hln;have hput:=Lib.hid (ho.putN l (bits .and .i64 (nth (hVs m 3 3 u (hU m 3 3 u) r) l) (2^(r+1))));have ho3p:=Lib.hid (ho3.far (row:=some g) (grown_set (w:=wr) (G:=g) (i:=l) (v:=.int .i64 (bits .and .i64 (nth (hVs m 3 3 u (hU m 3 3 u) r) l) (2^(r+1))))) (fun b hb e=>by have:=ho3.own_lo b hb;injection e with e;omega))
          have hw2:wrap64 ((2:Int)^(r+1))=2^(r+1):=pow_wrap5 (by omega)
          go_wp2
          go_region
          go_wp2
          go_roundw
          case rel=>exact ⟨r+1,by omega,by go_num,by rw [H3.out];exact hput.out,ho3p.out,below_drewN (Below.setCell (p:=(⟨g,l,none⟩:Addr)) hb hgl _) 1⟩
          case measure=>simp [intOf];omega
         ·have H3:=Lib.hid (show hVs m 3 3 u (hU m 3 3 u) (r+1)=hVs m 3 3 u (hU m 3 3 u) r by simp only [hVs];rw [Hq.out,if_neg h1]);have h1I:((q:Int)==1)=false:=(by simp;omega);clear h1
          go_wp2
          go_roundw
          case rel=>exact ⟨r+1,by omega,by go_num,by rw [H3.out];exact ho,ho3,hb⟩
          case measure=>simp [intOf];omega
      ·obtain rfl:r=3:=by omega
       go_wp2
       go_roundw
       case rel=>exact ⟨u+1,by omega,by go_num,ho,hb⟩
       case measure=>simp [intOf];omega
    ·obtain rfl:u=2*3:=by omega
     go_wp2
     go_ret
     rw [HL.out];have hnl:=Lib.hid (hU_len m 3 3 (2*3));exact ⟨_,_,by rw [hnl.out,hlen.out];rfl,by rw [hnl.out,hlen.out];exact ho,hb⟩
  ·obtain rfl:n=16:=by omega
   have HL:=Lib.hid (show nhL m 4=hU m 4 4 (2*4) by simp [nhL,hv]);have Hv:=Lib.hid hv;clear hv
   go_enter Tryz.func128,Tryz.ntmps128
   go_wp2_with (first
    |(go_at_call 107;refine HV.out.mono ?_;rintro e w1 ⟨rfl,hb1⟩;rw [Hv.out])
    |(go_at_call 108;refine (HCp.out _ hb1).mono ?_;rintro e w2 ⟨Ac,cc,rfl,ho2,hb2⟩))
   have hb12:=step hb1 hb2;have ho2':=ho2.mono hb1.size;obtain ⟨g,rfl,hgl,hgw⟩:=ho2'.form (by omega)
   go_loopw [6] (fun i wr=>∃ u:Nat,u<=2*4/\i=.int .i64 u/\Ow wr w.heap.size (some ⟨g,0,none⟩) 16 cc (hU m 4 4 u)/\Below w.heap.size w wr) (fun i _=>2*4-(intOf i).toNat)
   case atStart=>exact ⟨0,Nat.zero_le _,rfl,ho2',hb12⟩
   case round=>
    obtain ⟨u,hu,rfl,ho,hb⟩:=hrel
    by_cases hlt:u<2*4
    ·have hltI:(u:Int)<2*4:=(by omega);have hgr:=ho.own_hi g rfl
     have hat:Hid (∀ j,j<4->∃ q:Nat,lineAt 4 u j=(q:Int)/\q<16):=Lib.hid (fun j hj=>by
      by_cases hx:(u:Int)<4
      ·rw [lineAt_row hx];exact ⟨u*4+j,by omega,by omega⟩
      ·rw [lineAt_col hx]
       exact ⟨j*4+u-4,by omega,by omega⟩)
     have hsw:=hb.size
     have HLc:Hid (Calls Tryz.prog 157 #[.int .i64 4,.int .i64 u] wr fun e w''=>∃ g3 c3,e=.returned (.slice (some ⟨g3,0,none⟩) 4 c3)/\Ow w'' wr.heap.size (some ⟨g3,0,none⟩) 4 c3 (lineTo 4 u 4)/\Below wr.heap.size wr w''):=Lib.hid ((specLineCells 4 u wr ⟨by omega,by omega⟩).mono (by
      rintro e w'' ⟨A3,c3,rfl,ho3,hb3⟩
      have e1:lineL 4 u=lineTo 4 u 4:=by
       have:lineOk 4 u=true:=(by simp [lineOk,inr];omega)
       simp [lineL,this]
      rw [e1,lineTo_length] at ho3;rw [e1,lineTo_length];obtain ⟨g3,rfl,_,_⟩:=ho3.form (by omega)
      exact ⟨g3,c3,rfl,ho3,hb3⟩))
     go_wp2_with (go_at_call 157;refine HLc.out.mono ?_;rintro e w3 ⟨g3,c3,rfl,ho3,hb3⟩)
     have hg3:=ho3.own_lo g3 rfl;have hoA:=ho.below hb3;have hbA:=hb.trans (hb3.mono hsw)
     go_loopw [8] (fun i wr=>∃ r:Nat,r<=4/\i=.int .i64 ((r:Int)+1)/\Ow wr w.heap.size (some ⟨g,0,none⟩) 16 cc (hVs m 4 4 u (hU m 4 4 u) r)/\Ow wr (g+1) (some ⟨g3,0,none⟩) 4 c3 (lineTo 4 u 4)/\Below w.heap.size w wr) (fun i _=>4+1-(intOf i).toNat)
     case atStart=>exact ⟨0,Nat.zero_le _,by simp,hoA,ho3.mono (by omega),hbA⟩
     case round=>
      clear ho3 hoA hbA hb3 ho hb hsw HLc;obtain ⟨r,hr,rfl,ho,ho3,hb⟩:=hrel
      by_cases hrT:r<4
      ·have hrI:(r:Int)+1<=4:=(by omega);have hmr:=(h.below (hb.mono hB'))
       go_wp2
       obtain ⟨WR,hWR⟩:∃ WR,WR=wr:=⟨_,rfl⟩;rw [<- hWR];rw [<- hWR] at ho ho3 hb hmr;clear hWR
       go_loopw [9,10,11] (fun cn la i wr=>wr=WR/\∃ k:Nat,k<=4/\i=.int .i64 k/\cn=.int .i64 (hC m 4 u (r+1) k:Nat)/\la=.int .i64 (hL m 4 u (r+1) k:Nat)) (fun _ _ i _=>4-(intOf i).toNat)
       case atStart=>exact ⟨rfl,0,Nat.zero_le _,rfl,rfl,rfl⟩
       case round=>
        obtain ⟨rfl,k,hk,rfl,rfl,rfl⟩:=hrel
        by_cases hkT:k<4
        ·have hkI:(k:Int)<4:=(by omega);obtain ⟨q,hq,hqn⟩:=hat.out k hkT;obtain ⟨hc3,_⟩:=ho3.cell hkT;rw [show nth (lineTo 4 u 4) k=(q:Int) by rw [<- hq];simp [lineTo,nth,List.getD_eq_getElem?_getD,hkT]] at hc3;obtain ⟨b,off,hA,hbB,hck⟩:=hmr.at_ hqn;subst hA;obtain ⟨M,hM⟩:=Int.eq_ofNat_of_zero_le (Hrng.out q hqn);rw [hM] at hck;have hsh:=shr_bit M (r+1);have hcl:=hC_le m 4 u (r+1) k;have hbit:hB m 4 u (r+1) k=M.testBit (r+1):=(by simp only [hB,hq,Int.toNat_natCast];rw [hM];simp);cases hh:M.testBit (r+1)
         ·rw [hh] at hsh hbit;have H1:=Lib.hid (show hC m 4 u (r+1) (k+1)=hC m 4 u (r+1) k by simp [hC,hbit]);have H2:=Lib.hid (show hL m 4 u (r+1) (k+1)=hL m 4 u (r+1) k by simp [hL,hbit]);clear hh hbit hM hq
          go_wp2
          go_roundw
          case rel=>exact ⟨by trivial,k+1,by omega,by go_num,by rw [H1.out],by rw [H2.out]⟩
          case measure=>simp [intOf];omega
         ·rw [hh] at hsh hbit;have H1:=Lib.hid (show hC m 4 u (r+1) (k+1)=hC m 4 u (r+1) k+1 by simp [hC,hbit]);have H2:=Lib.hid (show hL m 4 u (r+1) (k+1)=q by simp [hL,hbit,hq]);clear hh hbit hM hq
          go_wp2
          go_roundw
          case rel=>exact ⟨by trivial,k+1,by omega,by go_num,by rw [H1.out];simp,by rw [H2.out]⟩
          case measure=>simp [intOf];omega
        ·obtain rfl:k=4:=by omega
         obtain ⟨q,hq⟩:∃ q,hC m 4 u (r+1) 4=q:=⟨_,rfl⟩;obtain ⟨l,hl⟩:∃ l,hL m 4 u (r+1) 4=l:=⟨_,rfl⟩
         have hln:l<16:=by
          rw [<- hl];exact hL_lt (fun j hj=>by obtain ⟨q,hq,hqn⟩:=hat.out j hj;rw [hq];simpa using hqn) (by omega)
         have Hq:=Lib.hid hq;have Hl:=Lib.hid hl;rw [hq,hl];clear hq hl
         by_cases h1:q=1
         ·have H3:=Lib.hid (show hVs m 4 4 u (hU m 4 4 u) (r+1)=(hVs m 4 4 u (hU m 4 4 u) r).set l (bits .and .i64 (nth (hVs m 4 4 u (hU m 4 4 u) r) l) (2^(r+1))) by simp only [hVs];rw [Hq.out,Hl.out,if_pos h1]);have h1I:((q:Int)==1)=true:=(by simp [h1]);clear h1;obtain ⟨hcell,hfr⟩:=ho.cell hln;have hput:=Lib.hid (ho.putN l (bits .and .i64 (nth (hVs m 4 4 u (hU m 4 4 u) r) l) (2^(r+1))));have ho3p:=Lib.hid (ho3.far (row:=some g) (grown_set (w:=wr) (G:=g) (i:=l) (v:=.int .i64 (bits .and .i64 (nth (hVs m 4 4 u (hU m 4 4 u) r) l) (2^(r+1))))) (fun b hb e=>by have:=ho3.own_lo b hb;injection e with e;omega))
          have hw2:wrap64 ((2:Int)^(r+1))=2^(r+1):=pow_wrap5 (by omega)
          go_wp2
          go_region
          go_wp2
          go_roundw
          case rel=>exact ⟨r+1,by omega,by go_num,by rw [H3.out];exact hput.out,ho3p.out,below_drewN (Below.setCell (p:=(⟨g,l,none⟩:Addr)) hb hgl _) 1⟩
          case measure=>simp [intOf];omega
         ·have H3:=Lib.hid (show hVs m 4 4 u (hU m 4 4 u) (r+1)=hVs m 4 4 u (hU m 4 4 u) r by simp only [hVs];rw [Hq.out,if_neg h1]);have h1I:((q:Int)==1)=false:=(by simp;omega);clear h1
          go_wp2
          go_roundw
          case rel=>exact ⟨r+1,by omega,by go_num,by rw [H3.out];exact ho,ho3,hb⟩
          case measure=>simp [intOf];omega
      ·obtain rfl:r=4:=by omega
       go_wp2
       go_roundw
       case rel=>exact ⟨u+1,by omega,by go_num,ho,hb⟩
       case measure=>simp [intOf];omega
    ·obtain rfl:u=2*4:=by omega
     go_wp2
     go_ret
     rw [HL.out];have hnl:=Lib.hid (hU_len m 4 4 (2*4));exact ⟨_,_,by rw [hnl.out,hlen.out];rfl,by rw [hnl.out,hlen.out];exact ho,hb⟩
def lcN (S u:Int) (k:Nat):Nat:=(lineAt S u k).toNat
def pIn (m:List Int) (S u:Int) (a b:Nat) (o:List Int):Nat->List Int
 |0=>o
 |k+1=>if k≠a/\k≠b then (pIn m S u a b o k).set (lcN S u k) (bits .andNot .i64 (nth (pIn m S u a b o k) (lcN S u k)) (nth m (lcN S u a))) else pIn m S u a b o k
def pB (m:List Int) (S:Int) (N:Nat) (u:Int) (a:Nat) (o:List Int):Nat->List Int
 |0=>o
 |b+1=>if nth m (lcN S u a)=nth m (lcN S u b)/\(maskVals (nth m (lcN S u a))).length=2 then pIn m S u a b (pB m S N u a o b) N else pB m S N u a o b
def pA (m:List Int) (S:Int) (N:Nat) (u:Int) (o:List Int):Nat->List Int
 |0=>o
 |a+1=>pB m S N u a (pA m S N u o a) a
def pU (m:List Int) (S:Int) (N:Nat):Nat->List Int
 |0=>m
 |u+1=>pA m S N u (pU m S N u) N
def npL (m:List Int) (S:Int):List Int:=if mvd m S=true then pU m S S.toNat (2*S.toNat) else []
theorem pIn_len (m:List Int) (S u:Int) (a b:Nat) (o:List Int) (k:Nat):(pIn m S u a b o k).length=o.length:=by
 induction k with
 |zero=>rfl
 |succ k ih=>
  simp only [pIn]
  split
  ·rw [List.length_set,ih]
  ·exact ih
theorem pB_len (m:List Int) (S:Int) (N:Nat) (u:Int) (a:Nat) (o:List Int) (b:Nat):(pB m S N u a o b).length=o.length:=by
 induction b with
 |zero=>rfl
 |succ b ih=>
  simp only [pB]
  split
  ·rw [pIn_len,ih]
  ·exact ih
theorem pA_len (m:List Int) (S:Int) (N:Nat) (u:Int) (o:List Int) (a:Nat):(pA m S N u o a).length=o.length:=by
 induction a with
 |zero=>rfl
 |succ a ih=>simp only [pA];rw [pB_len,ih]
theorem pU_len (m:List Int) (S:Int) (N u:Nat):(pU m S N u).length=m.length:=by
 induction u with
 |zero=>rfl
 |succ u ih=>simp only [pU];rw [pA_len,ih]
set_option maxRecDepth 8000 in
set_option maxHeartbeats 8000000 in
theorem specNarrowPairs (A:Option Addr) (c n B:Nat) (m:List Int) (s:Int) (w:World) (h:Rd w B A n m) (hB':B<=w.heap.size) (hm:n<=1099511627776) (hsb: -9223372036854775808<=s/\s<=9223372036854775807):
 Calls Tryz.prog 129 #[.slice A n c,.int .i64 s] w (RetSl w (npL m s)):=by
 have hlen:=Lib.hid h.1;have HV:=Lib.hid (specMasksValid A c n B m s w h hB' hm hsb);cases hv:mvd m s
 ·have HL:=Lib.hid (show npL m s=[] by simp [npL,hv])
  go_enter Tryz.func129,Tryz.ntmps129
  go_wp2_with (go_at_call 107;refine HV.out.mono ?_;rintro e w1 ⟨rfl,hb1⟩;rw [hv])
  go_ret
  rw [HL.out];exact ⟨_,_,rfl,Ow.made0 _ _ hb1.size,hb1.alloc hb1.size _⟩
 ·obtain ⟨⟨h2,h4⟩,hsq,hn16,hrng⟩:=mvd_at hv;rw [hlen.out] at hsq hn16 hrng
  have hs3:s=2\/s=3\/s=4:=by omega
  clear h2 h4;have HCp:=Lib.hid (fun w' (hb:Below w.heap.size w w')=>specL6Copy A n c B m w' (h.below (hb.mono hB')) (Nat.le_trans hB' hb.size) hm);have Hrng:=Lib.hid (mvd_b64' hv);clear hrng
  rcases hs3 with rfl|rfl|rfl
  ·obtain rfl:n=4:=by omega
   have HL:=Lib.hid (show npL m 2=pU m 2 2 (2*2) by simp [npL,hv]);have Hv:=Lib.hid hv;clear hv
   go_enter Tryz.func129,Tryz.ntmps129
   go_wp2_with (first
    |(go_at_call 107;refine HV.out.mono ?_;rintro e w1 ⟨rfl,hb1⟩;rw [Hv.out])
    |(go_at_call 108;refine (HCp.out _ hb1).mono ?_;rintro e w2 ⟨Ac,cc,rfl,ho2,hb2⟩))
   have hb12:=step hb1 hb2;have ho2':=ho2.mono hb1.size;obtain ⟨g,rfl,hgl,hgw⟩:=ho2'.form (by omega)
   go_loopw [6] (fun i wr=>∃ u:Nat,u<=2*2/\i=.int .i64 u/\Ow wr w.heap.size (some ⟨g,0,none⟩) 4 cc (pU m 2 2 u)/\Below w.heap.size w wr) (fun i _=>2*2-(intOf i).toNat)
   case atStart=>exact ⟨0,Nat.zero_le _,rfl,ho2',hb12⟩
   case round=>
    obtain ⟨u,hu,rfl,ho,hb⟩:=hrel
    by_cases hlt:u<2*2
    ·have hltI:(u:Int)<2*2:=(by omega);have hgr:=ho.own_hi g rfl
     have hat:Hid (∀ j,j<2->∃ q:Nat,lineAt 2 u j=(q:Int)/\q<4):=Lib.hid (fun j hj=>by
      by_cases hx:(u:Int)<2
      ·rw [lineAt_row hx];exact ⟨u*2+j,by omega,by omega⟩
      ·rw [lineAt_col hx]
       exact ⟨j*2+u-2,by omega,by omega⟩)
     have hsw:=hb.size
     have HLc:Hid (Calls Tryz.prog 157 #[.int .i64 2,.int .i64 u] wr fun e w''=>∃ g3 c3,e=.returned (.slice (some ⟨g3,0,none⟩) 2 c3)/\Ow w'' wr.heap.size (some ⟨g3,0,none⟩) 2 c3 (lineTo 2 u 2)/\Below wr.heap.size wr w''):=Lib.hid ((specLineCells 2 u wr ⟨by omega,by omega⟩).mono (by
      rintro e w'' ⟨A3,c3,rfl,ho3,hb3⟩
      have e1:lineL 2 u=lineTo 2 u 2:=by
       have:lineOk 2 u=true:=(by simp [lineOk,inr];omega)
       simp [lineL,this]
      rw [e1,lineTo_length] at ho3;rw [e1,lineTo_length];obtain ⟨g3,rfl,_,_⟩:=ho3.form (by omega)
      exact ⟨g3,c3,rfl,ho3,hb3⟩))
     go_wp2_with (go_at_call 157;refine HLc.out.mono ?_;rintro e w3 ⟨g3,c3,rfl,ho3,hb3⟩)
     have hg3:=ho3.own_lo g3 rfl;have hoA:=ho.below hb3;have hbA:=hb.trans (hb3.mono hsw)
     go_loopw [8] (fun i wr=>∃ a:Nat,a<=2/\i=.int .i64 a/\Ow wr w.heap.size (some ⟨g,0,none⟩) 4 cc (pA m 2 2 u (pU m 2 2 u) a)/\Ow wr (g+1) (some ⟨g3,0,none⟩) 2 c3 (lineTo 2 u 2)/\Below w.heap.size w wr) (fun i _=>2-(intOf i).toNat)
     case atStart=>exact ⟨0,Nat.zero_le _,rfl,hoA,ho3.mono (by omega),hbA⟩
     case round=>
      clear ho3 hoA hbA hb3 ho hb hsw HLc;obtain ⟨a,ha,rfl,ho,ho3,hb⟩:=hrel
      by_cases haT:a<2
      ·have haI:(a:Int)<2:=(by omega);obtain ⟨qa,hqa,hqan⟩:=hat.out a haT;have Hqa:=Lib.hid (show lcN 2 u a=qa by simp [lcN,hqa])
       go_wp2
       go_loopw [9] (fun i wr=>∃ b:Nat,b<=a/\i=.int .i64 b/\Ow wr w.heap.size (some ⟨g,0,none⟩) 4 cc (pB m 2 2 u a (pA m 2 2 u (pU m 2 2 u) a) b)/\Ow wr (g+1) (some ⟨g3,0,none⟩) 2 c3 (lineTo 2 u 2)/\Below w.heap.size w wr) (fun i _=>a-(intOf i).toNat)
       case atStart=>exact ⟨0,Nat.zero_le _,rfl,ho,ho3,hb⟩
       case round=>
        clear ho ho3 hb;obtain ⟨b,hb',rfl,ho,ho3,hb⟩:=hrel
        by_cases hba:b<a
        ·have hbI:(b:Int)<(a:Int):=(by omega);obtain ⟨qb,hqb,hqbn⟩:=hat.out b (by omega);have Hqb:=Lib.hid (show lcN 2 u b=qb by simp [lcN,hqb]);obtain ⟨hca,_⟩:=ho3.cell haT;obtain ⟨hcb,_⟩:=ho3.cell (show b<2 by omega);rw [show nth (lineTo 2 u 2) a=(qa:Int) by rw [<- hqa];simp [lineTo,nth,List.getD_eq_getElem?_getD,haT]] at hca;rw [show nth (lineTo 2 u 2) b=(qb:Int) by rw [<- hqb];simp [lineTo,nth,List.getD_eq_getElem?_getD,(show b<2 by omega)]] at hcb;obtain ⟨bb,off,hA,hbB,hck⟩:=(h.below (hb.mono hB')).at_ hqan;subst hA;obtain ⟨bb2,off2,hA2,_,hck2⟩:=(h.below (hb.mono hB')).at_ hqbn
         cases hA2;have hsw:=hb.size;have hgw3:=ho3.own_hi g3 rfl;have hbbw:bb<wr.heap.size:=(by omega);have hE1:Hid (pB m 2 2 u a (pA m 2 2 u (pU m 2 2 u) a) (b+1)=if nth m qa=nth m qb/\(maskVals (nth m qa)).length=2 then pIn m 2 u a b (pB m 2 2 u a (pA m 2 2 u (pU m 2 2 u) a) b) 2 else pB m 2 2 u a (pA m 2 2 u (pU m 2 2 u) a) b):=Lib.hid (by simp only [pB];rw [Hqa.out,Hqb.out])
         by_cases h1:nth m qa=nth m qb
         ·have h1I:(nth m qa != nth m qb)=false:=(by simp [h1]);obtain ⟨q,hq⟩:∃ q,q=(maskVals (nth m qa)).length:=⟨_,rfl⟩;have Hq:=Lib.hid hq;have HMv2:Hid (Calls Tryz.prog 109 #[.int .i64 (nth m qa)] wr fun e w''=>∃ A5 c5,e=.returned (.slice A5 q c5)/\Below wr.heap.size wr w''):=Lib.hid ((specMaskValues (nth m qa) wr (Hrng.out qa)).mono (by rintro e w'' ⟨A5,c5,rfl,_,hb5⟩;exact ⟨A5,c5,by rw [hq],hb5⟩));have He1:=Lib.hid h1;clear hq h1
          by_cases h2:q=2
          ·have h2I:((q:Int) != 2)=false:=(by simp [h2]);have Hs:=Lib.hid (show pB m 2 2 u a (pA m 2 2 u (pU m 2 2 u) a) (b+1)=pIn m 2 u a b (pB m 2 2 u a (pA m 2 2 u (pU m 2 2 u) a) b) 2 by rw [hE1.out,if_pos ⟨He1.out,by rw [<- Hq.out];exact h2⟩]);clear h2
           go_wp2_with (go_at_call 109;refine HMv2.out.mono ?_;rintro e w5 ⟨A5,c5,rfl,hb5⟩)
           have hoS:=ho.below hb5;have ho3S:=ho3.below hb5;have hbS:=hb.trans (hb5.mono hsw)
           go_loopw [11] (fun i wr=>∃ k:Nat,k<=2/\i=.int .i64 k/\Ow wr w.heap.size (some ⟨g,0,none⟩) 4 cc (pIn m 2 u a b (pB m 2 2 u a (pA m 2 2 u (pU m 2 2 u) a) b) k)/\Ow wr (g+1) (some ⟨g3,0,none⟩) 2 c3 (lineTo 2 u 2)/\Below w.heap.size w wr) (fun i _=>2-(intOf i).toNat)
           case atStart=>exact ⟨0,Nat.zero_le _,rfl,hoS,ho3S,hbS⟩
           case round=>
            clear ho ho3 hb hoS ho3S hbS hca hcb hck hck2 hsw hgw3 hbbw HMv2 hb5;obtain ⟨k,hk,rfl,ho,ho3,hb⟩:=hrel
            by_cases hkT:k<2
            ·have hkI:(k:Int)<2:=(by omega);obtain ⟨qk,hqk,hqkn⟩:=hat.out k hkT;have Hqk:=Lib.hid (show lcN 2 u k=qk by simp [lcN,hqk]);have hE2:Hid (pIn m 2 u a b (pB m 2 2 u a (pA m 2 2 u (pU m 2 2 u) a) b) (k+1)=if k≠a/\k≠b then (pIn m 2 u a b (pB m 2 2 u a (pA m 2 2 u (pU m 2 2 u) a) b) k).set qk (bits .andNot .i64 (nth (pIn m 2 u a b (pB m 2 2 u a (pA m 2 2 u (pU m 2 2 u) a) b) k) qk) (nth m qa)) else pIn m 2 u a b (pB m 2 2 u a (pA m 2 2 u (pU m 2 2 u) a) b) k):=Lib.hid (by simp only [pIn];rw [Hqa.out,Hqk.out])
             by_cases e1:k=a
             ·have f1:((k:Int) != (a:Int))=false:=(by simp [e1]);have Hk:=Lib.hid (hE2.out.trans (if_neg (fun e=>e.1 e1)));clear e1
              go_wp2
              go_roundw
              case rel=>exact ⟨k+1,by omega,by go_num,by rw [Hk.out];exact ho,ho3,hb⟩
              case measure=>simp [intOf];omega
             ·have f1:((k:Int) != (a:Int))=true:=(by simp;omega)
              by_cases e2:k=b
              ·have f2:((k:Int) != (b:Int))=false:=(by simp [e2]);have Hk:=Lib.hid (hE2.out.trans (if_neg (fun e=>e.2 e2)));clear e1 e2
               go_wp2
               go_roundw
               case rel=>exact ⟨k+1,by omega,by go_num,by rw [Hk.out];exact ho,ho3,hb⟩
               case measure=>simp [intOf];omega
              ·have f2:((k:Int) != (b:Int))=true:=(by simp;omega);have Hk:=Lib.hid (hE2.out.trans (if_pos ⟨e1,e2⟩));clear e1 e2;obtain ⟨hck,_⟩:=ho3.cell hkT;rw [show nth (lineTo 2 u 2) k=(qk:Int) by rw [<- hqk];simp [lineTo,nth,List.getD_eq_getElem?_getD,hkT]] at hck;obtain ⟨hcell,hfr⟩:=ho.cell hqkn;have hput:=Lib.hid (ho.putN qk (bits .andNot .i64 (nth (pIn m 2 u a b (pB m 2 2 u a (pA m 2 2 u (pU m 2 2 u) a) b) k) qk) (nth m qa)));have ho3p:=Lib.hid (ho3.far (row:=some g) (grown_set (w:=wr) (G:=g) (i:=qk) (v:=.int .i64 (bits .andNot .i64 (nth (pIn m 2 u a b (pB m 2 2 u a (pA m 2 2 u (pU m 2 2 u) a) b) k) qk) (nth m qa)))) (fun b hb e=>by have:=ho3.own_lo b hb;injection e with e;omega))
               go_wp2
               go_region
               go_wp2
               go_roundw
               case rel=>exact ⟨k+1,by omega,by go_num,by rw [Hk.out];exact hput.out,ho3p.out,below_drewN (Below.setCell (p:=(⟨g,qk,none⟩:Addr)) hb hgl _) 1⟩
               case measure=>simp [intOf];omega
            ·obtain rfl:k=2:=by omega
             go_wp2
             go_roundw
             case rel=>exact ⟨b+1,by omega,by go_num,by rw [Hs.out];exact ho,ho3,hb⟩
             case measure=>simp [intOf];omega
          ·have h2I:((q:Int) != 2)=true:=(by simp;omega);have Hs:=Lib.hid (show pB m 2 2 u a (pA m 2 2 u (pU m 2 2 u) a) (b+1)=pB m 2 2 u a (pA m 2 2 u (pU m 2 2 u) a) b by rw [hE1.out,if_neg (fun e=>h2 (by rw [Hq.out];exact e.2))]);clear h2
           go_wp2_with (go_at_call 109;refine HMv2.out.mono ?_;rintro e w5 ⟨A5,c5,rfl,hb5⟩)
           go_roundw
           case rel=>exact ⟨b+1,by omega,by go_num,by rw [Hs.out];exact ho.below hb5,ho3.below hb5,hb.trans (hb5.mono hsw)⟩
           case measure=>simp [intOf];omega
         ·have h1I:(nth m qa != nth m qb)=true:=(by simp;exact h1);have Hs:=Lib.hid (show pB m 2 2 u a (pA m 2 2 u (pU m 2 2 u) a) (b+1)=pB m 2 2 u a (pA m 2 2 u (pU m 2 2 u) a) b by rw [hE1.out,if_neg (fun e=>h1 e.1)]);clear h1
          go_wp2
          go_roundw
          case rel=>exact ⟨b+1,by omega,by go_num,by rw [Hs.out];exact ho,ho3,hb⟩
          case measure=>simp [intOf];omega
        ·obtain rfl:b=a:=by omega
         go_wp2
         go_roundw
         case rel=>exact ⟨b+1,by omega,by go_num,ho,ho3,hb⟩
         case measure=>simp [intOf];omega
      ·have haT':a=2:=(by omega);have haI:¬ (a:Int)<2:=(by omega);have Ho:Hid (Ow wr w.heap.size (some ⟨g,0,none⟩) 4 cc (pU m 2 2 (u+1))):=Lib.hid (by subst haT';exact ho);clear ho haT' haT ha
       go_wp2
       go_roundw
       case rel=>exact ⟨u+1,by omega,by go_num,Ho.out,hb⟩
       case measure=>simp [intOf];omega
    ·obtain rfl:u=2*2:=by omega
     go_wp2
     go_ret
     rw [HL.out];have hnl:=Lib.hid (pU_len m 2 2 (2*2));exact ⟨_,_,by rw [hnl.out,hlen.out];rfl,by rw [hnl.out,hlen.out];exact ho,hb⟩
  ·obtain rfl:n=9:=by omega
   have HL:=Lib.hid (show npL m 3=pU m 3 3 (2*3) by simp [npL,hv]);have Hv:=Lib.hid hv;clear hv
   go_enter Tryz.func129,Tryz.ntmps129
   go_wp2_with (first
    |(go_at_call 107;refine HV.out.mono ?_;rintro e w1 ⟨rfl,hb1⟩;rw [Hv.out])
    |(go_at_call 108;refine (HCp.out _ hb1).mono ?_;rintro e w2 ⟨Ac,cc,rfl,ho2,hb2⟩))
   have hb12:=step hb1 hb2;have ho2':=ho2.mono hb1.size;obtain ⟨g,rfl,hgl,hgw⟩:=ho2'.form (by omega)
   go_loopw [6] (fun i wr=>∃ u:Nat,u<=2*3/\i=.int .i64 u/\Ow wr w.heap.size (some ⟨g,0,none⟩) 9 cc (pU m 3 3 u)/\Below w.heap.size w wr) (fun i _=>2*3-(intOf i).toNat)
   case atStart=>exact ⟨0,Nat.zero_le _,rfl,ho2',hb12⟩
   case round=>
    obtain ⟨u,hu,rfl,ho,hb⟩:=hrel
    by_cases hlt:u<2*3
    ·have hltI:(u:Int)<2*3:=(by omega);have hgr:=ho.own_hi g rfl
     have hat:Hid (∀ j,j<3->∃ q:Nat,lineAt 3 u j=(q:Int)/\q<9):=Lib.hid (fun j hj=>by
      by_cases hx:(u:Int)<3
      ·rw [lineAt_row hx];exact ⟨u*3+j,by omega,by omega⟩
      ·rw [lineAt_col hx]
       exact ⟨j*3+u-3,by omega,by omega⟩)
     have hsw:=hb.size
     have HLc:Hid (Calls Tryz.prog 157 #[.int .i64 3,.int .i64 u] wr fun e w''=>∃ g3 c3,e=.returned (.slice (some ⟨g3,0,none⟩) 3 c3)/\Ow w'' wr.heap.size (some ⟨g3,0,none⟩) 3 c3 (lineTo 3 u 3)/\Below wr.heap.size wr w''):=Lib.hid ((specLineCells 3 u wr ⟨by omega,by omega⟩).mono (by
      rintro e w'' ⟨A3,c3,rfl,ho3,hb3⟩
      have e1:lineL 3 u=lineTo 3 u 3:=by
       have:lineOk 3 u=true:=(by simp [lineOk,inr];omega)
       simp [lineL,this]
      rw [e1,lineTo_length] at ho3;rw [e1,lineTo_length];obtain ⟨g3,rfl,_,_⟩:=ho3.form (by omega)
      exact ⟨g3,c3,rfl,ho3,hb3⟩))
     go_wp2_with (go_at_call 157;refine HLc.out.mono ?_;rintro e w3 ⟨g3,c3,rfl,ho3,hb3⟩)
     have hg3:=ho3.own_lo g3 rfl;have hoA:=ho.below hb3;have hbA:=hb.trans (hb3.mono hsw)
     go_loopw [8] (fun i wr=>∃ a:Nat,a<=3/\i=.int .i64 a/\Ow wr w.heap.size (some ⟨g,0,none⟩) 9 cc (pA m 3 3 u (pU m 3 3 u) a)/\Ow wr (g+1) (some ⟨g3,0,none⟩) 3 c3 (lineTo 3 u 3)/\Below w.heap.size w wr) (fun i _=>3-(intOf i).toNat)
     case atStart=>exact ⟨0,Nat.zero_le _,rfl,hoA,ho3.mono (by omega),hbA⟩
     case round=>
      clear ho3 hoA hbA hb3 ho hb hsw HLc;obtain ⟨a,ha,rfl,ho,ho3,hb⟩:=hrel
      by_cases haT:a<3
      ·have haI:(a:Int)<3:=(by omega);obtain ⟨qa,hqa,hqan⟩:=hat.out a haT;have Hqa:=Lib.hid (show lcN 3 u a=qa by simp [lcN,hqa])
       go_wp2
       go_loopw [9] (fun i wr=>∃ b:Nat,b<=a/\i=.int .i64 b/\Ow wr w.heap.size (some ⟨g,0,none⟩) 9 cc (pB m 3 3 u a (pA m 3 3 u (pU m 3 3 u) a) b)/\Ow wr (g+1) (some ⟨g3,0,none⟩) 3 c3 (lineTo 3 u 3)/\Below w.heap.size w wr) (fun i _=>a-(intOf i).toNat)
       case atStart=>exact ⟨0,Nat.zero_le _,rfl,ho,ho3,hb⟩
       case round=>
        clear ho ho3 hb;obtain ⟨b,hb',rfl,ho,ho3,hb⟩:=hrel
        by_cases hba:b<a
        ·have hbI:(b:Int)<(a:Int):=(by omega);obtain ⟨qb,hqb,hqbn⟩:=hat.out b (by omega);have Hqb:=Lib.hid (show lcN 3 u b=qb by simp [lcN,hqb]);obtain ⟨hca,_⟩:=ho3.cell haT;obtain ⟨hcb,_⟩:=ho3.cell (show b<3 by omega);rw [show nth (lineTo 3 u 3) a=(qa:Int) by rw [<- hqa];simp [lineTo,nth,List.getD_eq_getElem?_getD,haT]] at hca;rw [show nth (lineTo 3 u 3) b=(qb:Int) by rw [<- hqb];simp [lineTo,nth,List.getD_eq_getElem?_getD,(show b<3 by omega)]] at hcb;obtain ⟨bb,off,hA,hbB,hck⟩:=(h.below (hb.mono hB')).at_ hqan;subst hA;obtain ⟨bb2,off2,hA2,_,hck2⟩:=(h.below (hb.mono hB')).at_ hqbn
         cases hA2;have hsw:=hb.size;have hgw3:=ho3.own_hi g3 rfl;have hbbw:bb<wr.heap.size:=(by omega);have hE1:Hid (pB m 3 3 u a (pA m 3 3 u (pU m 3 3 u) a) (b+1)=if nth m qa=nth m qb/\(maskVals (nth m qa)).length=2 then pIn m 3 u a b (pB m 3 3 u a (pA m 3 3 u (pU m 3 3 u) a) b) 3 else pB m 3 3 u a (pA m 3 3 u (pU m 3 3 u) a) b):=Lib.hid (by simp only [pB];rw [Hqa.out,Hqb.out])
         by_cases h1:nth m qa=nth m qb
         ·have h1I:(nth m qa != nth m qb)=false:=(by simp [h1]);obtain ⟨q,hq⟩:∃ q,q=(maskVals (nth m qa)).length:=⟨_,rfl⟩;have Hq:=Lib.hid hq;have HMv2:Hid (Calls Tryz.prog 109 #[.int .i64 (nth m qa)] wr fun e w''=>∃ A5 c5,e=.returned (.slice A5 q c5)/\Below wr.heap.size wr w''):=Lib.hid ((specMaskValues (nth m qa) wr (Hrng.out qa)).mono (by rintro e w'' ⟨A5,c5,rfl,_,hb5⟩;exact ⟨A5,c5,by rw [hq],hb5⟩));have He1:=Lib.hid h1;clear hq h1
          by_cases h2:q=2
          ·have h2I:((q:Int) != 2)=false:=(by simp [h2]);have Hs:=Lib.hid (show pB m 3 3 u a (pA m 3 3 u (pU m 3 3 u) a) (b+1)=pIn m 3 u a b (pB m 3 3 u a (pA m 3 3 u (pU m 3 3 u) a) b) 3 by rw [hE1.out,if_pos ⟨He1.out,by rw [<- Hq.out];exact h2⟩]);clear h2
           go_wp2_with (go_at_call 109;refine HMv2.out.mono ?_;rintro e w5 ⟨A5,c5,rfl,hb5⟩)
           have hoS:=ho.below hb5;have ho3S:=ho3.below hb5;have hbS:=hb.trans (hb5.mono hsw)
           go_loopw [11] (fun i wr=>∃ k:Nat,k<=3/\i=.int .i64 k/\Ow wr w.heap.size (some ⟨g,0,none⟩) 9 cc (pIn m 3 u a b (pB m 3 3 u a (pA m 3 3 u (pU m 3 3 u) a) b) k)/\Ow wr (g+1) (some ⟨g3,0,none⟩) 3 c3 (lineTo 3 u 3)/\Below w.heap.size w wr) (fun i _=>3-(intOf i).toNat)
           case atStart=>exact ⟨0,Nat.zero_le _,rfl,hoS,ho3S,hbS⟩
           case round=>
            clear ho ho3 hb hoS ho3S hbS hca hcb hck hck2 hsw hgw3 hbbw HMv2 hb5;obtain ⟨k,hk,rfl,ho,ho3,hb⟩:=hrel
            by_cases hkT:k<3
            ·have hkI:(k:Int)<3:=(by omega);obtain ⟨qk,hqk,hqkn⟩:=hat.out k hkT;have Hqk:=Lib.hid (show lcN 3 u k=qk by simp [lcN,hqk]);have hE2:Hid (pIn m 3 u a b (pB m 3 3 u a (pA m 3 3 u (pU m 3 3 u) a) b) (k+1)=if k≠a/\k≠b then (pIn m 3 u a b (pB m 3 3 u a (pA m 3 3 u (pU m 3 3 u) a) b) k).set qk (bits .andNot .i64 (nth (pIn m 3 u a b (pB m 3 3 u a (pA m 3 3 u (pU m 3 3 u) a) b) k) qk) (nth m qa)) else pIn m 3 u a b (pB m 3 3 u a (pA m 3 3 u (pU m 3 3 u) a) b) k):=Lib.hid (by simp only [pIn];rw [Hqa.out,Hqk.out])
             by_cases e1:k=a
             ·have f1:((k:Int) != (a:Int))=false:=(by simp [e1]);have Hk:=Lib.hid (hE2.out.trans (if_neg (fun e=>e.1 e1)));clear e1
              go_wp2
              go_roundw
              case rel=>exact ⟨k+1,by omega,by go_num,by rw [Hk.out];exact ho,ho3,hb⟩
              case measure=>simp [intOf];omega
             ·have f1:((k:Int) != (a:Int))=true:=(by simp;omega)
              by_cases e2:k=b
              ·have f2:((k:Int) != (b:Int))=false:=(by simp [e2]);have Hk:=Lib.hid (hE2.out.trans (if_neg (fun e=>e.2 e2)));clear e1 e2
               go_wp2
               go_roundw
               case rel=>exact ⟨k+1,by omega,by go_num,by rw [Hk.out];exact ho,ho3,hb⟩
               case measure=>simp [intOf];omega
              ·have f2:((k:Int) != (b:Int))=true:=(by simp;omega);have Hk:=Lib.hid (hE2.out.trans (if_pos ⟨e1,e2⟩));clear e1 e2;obtain ⟨hck,_⟩:=ho3.cell hkT;rw [show nth (lineTo 3 u 3) k=(qk:Int) by rw [<- hqk];simp [lineTo,nth,List.getD_eq_getElem?_getD,hkT]] at hck;obtain ⟨hcell,hfr⟩:=ho.cell hqkn;have hput:=Lib.hid (ho.putN qk (bits .andNot .i64 (nth (pIn m 3 u a b (pB m 3 3 u a (pA m 3 3 u (pU m 3 3 u) a) b) k) qk) (nth m qa)));have ho3p:=Lib.hid (ho3.far (row:=some g) (grown_set (w:=wr) (G:=g) (i:=qk) (v:=.int .i64 (bits .andNot .i64 (nth (pIn m 3 u a b (pB m 3 3 u a (pA m 3 3 u (pU m 3 3 u) a) b) k) qk) (nth m qa)))) (fun b hb e=>by have:=ho3.own_lo b hb;injection e with e;omega))
               go_wp2
               go_region
               go_wp2
               go_roundw
               case rel=>exact ⟨k+1,by omega,by go_num,by rw [Hk.out];exact hput.out,ho3p.out,below_drewN (Below.setCell (p:=(⟨g,qk,none⟩:Addr)) hb hgl _) 1⟩
               case measure=>simp [intOf];omega
            ·obtain rfl:k=3:=by omega
             go_wp2
             go_roundw
             case rel=>exact ⟨b+1,by omega,by go_num,by rw [Hs.out];exact ho,ho3,hb⟩
             case measure=>simp [intOf];omega
          ·have h2I:((q:Int) != 2)=true:=(by simp;omega);have Hs:=Lib.hid (show pB m 3 3 u a (pA m 3 3 u (pU m 3 3 u) a) (b+1)=pB m 3 3 u a (pA m 3 3 u (pU m 3 3 u) a) b by rw [hE1.out,if_neg (fun e=>h2 (by rw [Hq.out];exact e.2))]);clear h2
           go_wp2_with (go_at_call 109;refine HMv2.out.mono ?_;rintro e w5 ⟨A5,c5,rfl,hb5⟩)
           go_roundw
           case rel=>exact ⟨b+1,by omega,by go_num,by rw [Hs.out];exact ho.below hb5,ho3.below hb5,hb.trans (hb5.mono hsw)⟩
           case measure=>simp [intOf];omega
         ·have h1I:(nth m qa != nth m qb)=true:=(by simp;exact h1);have Hs:=Lib.hid (show pB m 3 3 u a (pA m 3 3 u (pU m 3 3 u) a) (b+1)=pB m 3 3 u a (pA m 3 3 u (pU m 3 3 u) a) b by rw [hE1.out,if_neg (fun e=>h1 e.1)]);clear h1
          go_wp2
          go_roundw
          case rel=>exact ⟨b+1,by omega,by go_num,by rw [Hs.out];exact ho,ho3,hb⟩
          case measure=>simp [intOf];omega
        ·obtain rfl:b=a:=by omega
         go_wp2
         go_roundw
         case rel=>exact ⟨b+1,by omega,by go_num,ho,ho3,hb⟩
         case measure=>simp [intOf];omega
      ·have haT':a=3:=(by omega);have haI:¬ (a:Int)<3:=(by omega);have Ho:Hid (Ow wr w.heap.size (some ⟨g,0,none⟩) 9 cc (pU m 3 3 (u+1))):=Lib.hid (by subst haT';exact ho);clear ho haT' haT ha
       go_wp2
       go_roundw
       case rel=>exact ⟨u+1,by omega,by go_num,Ho.out,hb⟩
       case measure=>simp [intOf];omega
    ·obtain rfl:u=2*3:=by omega
     go_wp2
     go_ret
     rw [HL.out];have hnl:=Lib.hid (pU_len m 3 3 (2*3));exact ⟨_,_,by rw [hnl.out,hlen.out];rfl,by rw [hnl.out,hlen.out];exact ho,hb⟩
  ·obtain rfl:n=16:=by omega
   have HL:=Lib.hid (show npL m 4=pU m 4 4 (2*4) by simp [npL,hv]);have Hv:=Lib.hid hv;clear hv
   go_enter Tryz.func129,Tryz.ntmps129
   go_wp2_with (first
    |(go_at_call 107;refine HV.out.mono ?_;rintro e w1 ⟨rfl,hb1⟩;rw [Hv.out])
    |(go_at_call 108;refine (HCp.out _ hb1).mono ?_;rintro e w2 ⟨Ac,cc,rfl,ho2,hb2⟩))
   have hb12:=step hb1 hb2;have ho2':=ho2.mono hb1.size;obtain ⟨g,rfl,hgl,hgw⟩:=ho2'.form (by omega)
   go_loopw [6] (fun i wr=>∃ u:Nat,u<=2*4/\i=.int .i64 u/\Ow wr w.heap.size (some ⟨g,0,none⟩) 16 cc (pU m 4 4 u)/\Below w.heap.size w wr) (fun i _=>2*4-(intOf i).toNat)
   case atStart=>exact ⟨0,Nat.zero_le _,rfl,ho2',hb12⟩
   case round=>
    obtain ⟨u,hu,rfl,ho,hb⟩:=hrel
    by_cases hlt:u<2*4
    ·have hltI:(u:Int)<2*4:=(by omega);have hgr:=ho.own_hi g rfl
     have hat:Hid (∀ j,j<4->∃ q:Nat,lineAt 4 u j=(q:Int)/\q<16):=Lib.hid (fun j hj=>by
      by_cases hx:(u:Int)<4
      ·rw [lineAt_row hx];exact ⟨u*4+j,by omega,by omega⟩
      ·rw [lineAt_col hx]
       exact ⟨j*4+u-4,by omega,by omega⟩)
     have hsw:=hb.size
     have HLc:Hid (Calls Tryz.prog 157 #[.int .i64 4,.int .i64 u] wr fun e w''=>∃ g3 c3,e=.returned (.slice (some ⟨g3,0,none⟩) 4 c3)/\Ow w'' wr.heap.size (some ⟨g3,0,none⟩) 4 c3 (lineTo 4 u 4)/\Below wr.heap.size wr w''):=Lib.hid ((specLineCells 4 u wr ⟨by omega,by omega⟩).mono (by
      rintro e w'' ⟨A3,c3,rfl,ho3,hb3⟩
      have e1:lineL 4 u=lineTo 4 u 4:=by
       have:lineOk 4 u=true:=(by simp [lineOk,inr];omega)
       simp [lineL,this]
      rw [e1,lineTo_length] at ho3;rw [e1,lineTo_length];obtain ⟨g3,rfl,_,_⟩:=ho3.form (by omega)
      exact ⟨g3,c3,rfl,ho3,hb3⟩))
     go_wp2_with (go_at_call 157;refine HLc.out.mono ?_;rintro e w3 ⟨g3,c3,rfl,ho3,hb3⟩)
     have hg3:=ho3.own_lo g3 rfl;have hoA:=ho.below hb3;have hbA:=hb.trans (hb3.mono hsw)
     go_loopw [8] (fun i wr=>∃ a:Nat,a<=4/\i=.int .i64 a/\Ow wr w.heap.size (some ⟨g,0,none⟩) 16 cc (pA m 4 4 u (pU m 4 4 u) a)/\Ow wr (g+1) (some ⟨g3,0,none⟩) 4 c3 (lineTo 4 u 4)/\Below w.heap.size w wr) (fun i _=>4-(intOf i).toNat)
     case atStart=>exact ⟨0,Nat.zero_le _,rfl,hoA,ho3.mono (by omega),hbA⟩
     case round=>
      clear ho3 hoA hbA hb3 ho hb hsw HLc;obtain ⟨a,ha,rfl,ho,ho3,hb⟩:=hrel
      by_cases haT:a<4
      ·have haI:(a:Int)<4:=(by omega);obtain ⟨qa,hqa,hqan⟩:=hat.out a haT;have Hqa:=Lib.hid (show lcN 4 u a=qa by simp [lcN,hqa])
       go_wp2
       go_loopw [9] (fun i wr=>∃ b:Nat,b<=a/\i=.int .i64 b/\Ow wr w.heap.size (some ⟨g,0,none⟩) 16 cc (pB m 4 4 u a (pA m 4 4 u (pU m 4 4 u) a) b)/\Ow wr (g+1) (some ⟨g3,0,none⟩) 4 c3 (lineTo 4 u 4)/\Below w.heap.size w wr) (fun i _=>a-(intOf i).toNat)
       case atStart=>exact ⟨0,Nat.zero_le _,rfl,ho,ho3,hb⟩
       case round=>
        clear ho ho3 hb;obtain ⟨b,hb',rfl,ho,ho3,hb⟩:=hrel
        by_cases hba:b<a
        ·have hbI:(b:Int)<(a:Int):=(by omega);obtain ⟨qb,hqb,hqbn⟩:=hat.out b (by omega);have Hqb:=Lib.hid (show lcN 4 u b=qb by simp [lcN,hqb]);obtain ⟨hca,_⟩:=ho3.cell haT;obtain ⟨hcb,_⟩:=ho3.cell (show b<4 by omega);rw [show nth (lineTo 4 u 4) a=(qa:Int) by rw [<- hqa];simp [lineTo,nth,List.getD_eq_getElem?_getD,haT]] at hca;rw [show nth (lineTo 4 u 4) b=(qb:Int) by rw [<- hqb];simp [lineTo,nth,List.getD_eq_getElem?_getD,(show b<4 by omega)]] at hcb;obtain ⟨bb,off,hA,hbB,hck⟩:=(h.below (hb.mono hB')).at_ hqan;subst hA;obtain ⟨bb2,off2,hA2,_,hck2⟩:=(h.below (hb.mono hB')).at_ hqbn
         cases hA2;have hsw:=hb.size;have hgw3:=ho3.own_hi g3 rfl;have hbbw:bb<wr.heap.size:=(by omega);have hE1:Hid (pB m 4 4 u a (pA m 4 4 u (pU m 4 4 u) a) (b+1)=if nth m qa=nth m qb/\(maskVals (nth m qa)).length=2 then pIn m 4 u a b (pB m 4 4 u a (pA m 4 4 u (pU m 4 4 u) a) b) 4 else pB m 4 4 u a (pA m 4 4 u (pU m 4 4 u) a) b):=Lib.hid (by simp only [pB];rw [Hqa.out,Hqb.out])
         by_cases h1:nth m qa=nth m qb
         ·have h1I:(nth m qa != nth m qb)=false:=(by simp [h1]);obtain ⟨q,hq⟩:∃ q,q=(maskVals (nth m qa)).length:=⟨_,rfl⟩;have Hq:=Lib.hid hq;have HMv2:Hid (Calls Tryz.prog 109 #[.int .i64 (nth m qa)] wr fun e w''=>∃ A5 c5,e=.returned (.slice A5 q c5)/\Below wr.heap.size wr w''):=Lib.hid ((specMaskValues (nth m qa) wr (Hrng.out qa)).mono (by rintro e w'' ⟨A5,c5,rfl,_,hb5⟩;exact ⟨A5,c5,by rw [hq],hb5⟩));have He1:=Lib.hid h1;clear hq h1
          by_cases h2:q=2
          ·have h2I:((q:Int) != 2)=false:=(by simp [h2]);have Hs:=Lib.hid (show pB m 4 4 u a (pA m 4 4 u (pU m 4 4 u) a) (b+1)=pIn m 4 u a b (pB m 4 4 u a (pA m 4 4 u (pU m 4 4 u) a) b) 4 by rw [hE1.out,if_pos ⟨He1.out,by rw [<- Hq.out];exact h2⟩]);clear h2
           go_wp2_with (go_at_call 109;refine HMv2.out.mono ?_;rintro e w5 ⟨A5,c5,rfl,hb5⟩)
           have hoS:=ho.below hb5;have ho3S:=ho3.below hb5;have hbS:=hb.trans (hb5.mono hsw)
           go_loopw [11] (fun i wr=>∃ k:Nat,k<=4/\i=.int .i64 k/\Ow wr w.heap.size (some ⟨g,0,none⟩) 16 cc (pIn m 4 u a b (pB m 4 4 u a (pA m 4 4 u (pU m 4 4 u) a) b) k)/\Ow wr (g+1) (some ⟨g3,0,none⟩) 4 c3 (lineTo 4 u 4)/\Below w.heap.size w wr) (fun i _=>4-(intOf i).toNat)
           case atStart=>exact ⟨0,Nat.zero_le _,rfl,hoS,ho3S,hbS⟩
           case round=>
            clear ho ho3 hb hoS ho3S hbS hca hcb hck hck2 hsw hgw3 hbbw HMv2 hb5;obtain ⟨k,hk,rfl,ho,ho3,hb⟩:=hrel
            by_cases hkT:k<4
            ·have hkI:(k:Int)<4:=(by omega);obtain ⟨qk,hqk,hqkn⟩:=hat.out k hkT;have Hqk:=Lib.hid (show lcN 4 u k=qk by simp [lcN,hqk]);have hE2:Hid (pIn m 4 u a b (pB m 4 4 u a (pA m 4 4 u (pU m 4 4 u) a) b) (k+1)=if k≠a/\k≠b then (pIn m 4 u a b (pB m 4 4 u a (pA m 4 4 u (pU m 4 4 u) a) b) k).set qk (bits .andNot .i64 (nth (pIn m 4 u a b (pB m 4 4 u a (pA m 4 4 u (pU m 4 4 u) a) b) k) qk) (nth m qa)) else pIn m 4 u a b (pB m 4 4 u a (pA m 4 4 u (pU m 4 4 u) a) b) k):=Lib.hid (by simp only [pIn];rw [Hqa.out,Hqk.out])
             by_cases e1:k=a
             ·have f1:((k:Int) != (a:Int))=false:=(by simp [e1]);have Hk:=Lib.hid (hE2.out.trans (if_neg (fun e=>e.1 e1)));clear e1
              go_wp2
              go_roundw
              case rel=>exact ⟨k+1,by omega,by go_num,by rw [Hk.out];exact ho,ho3,hb⟩
              case measure=>simp [intOf];omega
             ·have f1:((k:Int) != (a:Int))=true:=(by simp;omega)
              by_cases e2:k=b
              ·have f2:((k:Int) != (b:Int))=false:=(by simp [e2]);have Hk:=Lib.hid (hE2.out.trans (if_neg (fun e=>e.2 e2)));clear e1 e2
               go_wp2
               go_roundw
               case rel=>exact ⟨k+1,by omega,by go_num,by rw [Hk.out];exact ho,ho3,hb⟩
               case measure=>simp [intOf];omega
              ·have f2:((k:Int) != (b:Int))=true:=(by simp;omega);have Hk:=Lib.hid (hE2.out.trans (if_pos ⟨e1,e2⟩));clear e1 e2;obtain ⟨hck,_⟩:=ho3.cell hkT;rw [show nth (lineTo 4 u 4) k=(qk:Int) by rw [<- hqk];simp [lineTo,nth,List.getD_eq_getElem?_getD,hkT]] at hck;obtain ⟨hcell,hfr⟩:=ho.cell hqkn;have hput:=Lib.hid (ho.putN qk (bits .andNot .i64 (nth (pIn m 4 u a b (pB m 4 4 u a (pA m 4 4 u (pU m 4 4 u) a) b) k) qk) (nth m qa)));have ho3p:=Lib.hid (ho3.far (row:=some g) (grown_set (w:=wr) (G:=g) (i:=qk) (v:=.int .i64 (bits .andNot .i64 (nth (pIn m 4 u a b (pB m 4 4 u a (pA m 4 4 u (pU m 4 4 u) a) b) k) qk) (nth m qa)))) (fun b hb e=>by have:=ho3.own_lo b hb;injection e with e;omega))
               go_wp2
               go_region
               go_wp2
               go_roundw
               case rel=>exact ⟨k+1,by omega,by go_num,by rw [Hk.out];exact hput.out,ho3p.out,below_drewN (Below.setCell (p:=(⟨g,qk,none⟩:Addr)) hb hgl _) 1⟩
               case measure=>simp [intOf];omega
            ·obtain rfl:k=4:=by omega
             go_wp2
             go_roundw
             case rel=>exact ⟨b+1,by omega,by go_num,by rw [Hs.out];exact ho,ho3,hb⟩
             case measure=>simp [intOf];omega
          ·have h2I:((q:Int) != 2)=true:=(by simp;omega);have Hs:=Lib.hid (show pB m 4 4 u a (pA m 4 4 u (pU m 4 4 u) a) (b+1)=pB m 4 4 u a (pA m 4 4 u (pU m 4 4 u) a) b by rw [hE1.out,if_neg (fun e=>h2 (by rw [Hq.out];exact e.2))]);clear h2
           go_wp2_with (go_at_call 109;refine HMv2.out.mono ?_;rintro e w5 ⟨A5,c5,rfl,hb5⟩)
           go_roundw
           case rel=>exact ⟨b+1,by omega,by go_num,by rw [Hs.out];exact ho.below hb5,ho3.below hb5,hb.trans (hb5.mono hsw)⟩
           case measure=>simp [intOf];omega
         ·have h1I:(nth m qa != nth m qb)=true:=(by simp;exact h1);have Hs:=Lib.hid (show pB m 4 4 u a (pA m 4 4 u (pU m 4 4 u) a) (b+1)=pB m 4 4 u a (pA m 4 4 u (pU m 4 4 u) a) b by rw [hE1.out,if_neg (fun e=>h1 e.1)]);clear h1
          go_wp2
          go_roundw
          case rel=>exact ⟨b+1,by omega,by go_num,by rw [Hs.out];exact ho,ho3,hb⟩
          case measure=>simp [intOf];omega
        ·obtain rfl:b=a:=by omega
         go_wp2
         go_roundw
         case rel=>exact ⟨b+1,by omega,by go_num,ho,ho3,hb⟩
         case measure=>simp [intOf];omega
      ·have haT':a=4:=(by omega);have haI:¬ (a:Int)<4:=(by omega);have Ho:Hid (Ow wr w.heap.size (some ⟨g,0,none⟩) 16 cc (pU m 4 4 (u+1))):=Lib.hid (by subst haT';exact ho);clear ho haT' haT ha
       go_wp2
       go_roundw
       case rel=>exact ⟨u+1,by omega,by go_num,Ho.out,hb⟩
       case measure=>simp [intOf];omega
    ·obtain rfl:u=2*4:=by omega
     go_wp2
     go_ret
     rw [HL.out];have hnl:=Lib.hid (pU_len m 4 4 (2*4));exact ⟨_,_,by rw [hnl.out,hlen.out];rfl,by rw [hnl.out,hlen.out];exact ho,hb⟩
def allW (ms:List Int):Nat->List Int->List (List Int)
 |0,vs=>[vs]
 |d+1,vs=>(bitsTo (nth ms vs.length).toNat 4).flatMap fun x=>allW ms d (vs++[x])
theorem bits_flat {β:Type} (M u:Nat) (f:Int->List β):(bitsTo M (u+1)).flatMap f=(bitsTo M u).flatMap f++(if M.testBit (u+1)=true then f ((u:Int)+1) else []):=by
 simp only [bitsTo,List.flatMap_append]
 split<;>simp
theorem bits_mem {M u:Nat} {y:Int} (h:y∈bitsTo M u):1<=y/\y<=(u:Int):=by
 induction u with
 |zero=>simp [bitsTo] at h
 |succ u ih=>
  simp only [bitsTo,List.mem_append] at h
  rcases h with h|h
  ·have:=ih h;omega
  ·split at h
   ·simp at h;omega
   ·simp at h
theorem allW_len {ms:List Int}:∀ {d:Nat} {vs ys:List Int},ys∈allW ms d vs->ys.length=vs.length+d:=by
 intro d
 induction d with
 |zero=>intro vs ys h;simp [allW] at h;subst h;rfl
 |succ d ih=>
  intro vs ys h;simp only [allW,List.mem_flatMap] at h;obtain ⟨x,_,h⟩:=h;have:=ih h;rw [List.length_append,List.length_singleton] at this;omega
theorem allW_small {ms:List Int}:∀ {d:Nat} {vs ys:List Int},(∀ i,i<vs.length->1<=nth vs i/\nth vs i<=4)->ys∈allW ms d vs->∀ i,i<vs.length+d->1<=nth ys i/\nth ys i<=4:=by
 intro d
 induction d with
 |zero=>intro vs ys hv h;simp [allW] at h;subst h;simpa using hv
 |succ d ih=>
  intro vs ys hv h;simp only [allW,List.mem_flatMap] at h;obtain ⟨x,hx,h⟩:=h;have hx':=bits_mem hx;intro i hi;refine ih (fun j hj=>?_) h i (by rw [List.length_append,List.length_singleton];omega);rw [List.length_append,List.length_singleton] at hj;rw [nth_push rfl]
  split
  ·exact hv j (by assumption)
  ·rw [if_pos (by omega)];omega
theorem foldN_foldl (step:Int->List Nat->List Nat) (L:List Int) (F:List Nat):∀ t,t<=L.length->foldN step L t F=(L.take t).foldl (fun G x=>step x G) F:=by
 intro t
 induction t with
 |zero=>intro _;simp [foldN]
 |succ t ih=>
  intro ht;simp only [foldN];rw [ih (by omega),List.take_add_one,List.foldl_append,List.getElem?_eq_getElem (by omega)]
  simp [nth,List.getD_eq_getElem?_getD,List.getElem?_eq_getElem (show t<L.length by omega)]
def orWay (k v:Int) (G:List Nat) (ys:List Int):List Nat:=if holdsB k v ys=true then orTo ys G G.length else G
def orAll (G:List Nat) (ys:List Int):List Nat:=orTo ys G G.length
theorem waysF_fold (k v:Int) (xs ms pm:List Int):∀ d vs F,(∀ i,vs.length<=i->i<vs.length+d->maskVals (nth ms (nth xs i).toNat)=bitsTo (nth pm i).toNat 4)->waysF k v xs ms d vs F=(allW pm d vs).foldl (orWay k v) F:=by
 intro d
 induction d with
 |zero=>intro vs F _;rfl
 |succ d ih=>
  intro vs F h;simp only [waysF,allW];rw [h vs.length (Nat.le_refl _) (by omega),foldN_foldl _ _ _ _ (Nat.le_refl _),List.take_length,List.foldl_flatMap]
  congr 1
  funext G x
  refine ih _ _ fun i h1 h2=>h i ?_ ?_
  ·rw [List.length_append,List.length_singleton] at h1;omega
  ·rw [List.length_append,List.length_singleton] at h2;omega
theorem fold_filter (k v:Int) (L:List (List Int)) (F:List Nat):L.foldl (orWay k v) F=(L.filter (holdsB k v)).foldl orAll F:=by
 rw [List.foldl_filter];rfl
theorem orAll_length (G:List Nat) (ys:List Int):(orAll G ys).length=G.length:=orTo_length _ _ _
theorem foldAll_pos:∀ (L:List (List Int)) (G:List Nat),0<G.length->G.getD 0 0≠0->(L.foldl orAll G).getD 0 0≠0:=by
 intro L
 induction L with
 |nil=>intro G _ h;exact h
 |cons y L ih=>
  intro G hl h;refine ih _ (by rw [orAll_length];exact hl) ?_;unfold orAll;rw [orTo_get hl,if_pos hl];intro e;exact h (Nat.or_eq_zero_iff.1 e).1
theorem foldAll_zero (L:List (List Int)) (n:Nat) (hn:0<n):(nth (nats (L.foldl orAll (zerosN n))) 0 != 0)= !L.isEmpty:=by
 rw [nats_nth]
 cases L with
 |nil=>simp [zerosN,List.getD_eq_getElem?_getD,hn]
 |cons y L=>
  have hz:0<(zerosN n).length:=by simp [zerosN];exact hn
  have h1:(orAll (zerosN n) y).getD 0 0≠0:=by
   unfold orAll;rw [orTo_get hz,if_pos hz];intro e;have:=(Nat.or_eq_zero_iff.1 e).2;exact absurd this (by have:=Nat.two_pow_pos (nth y 0).toNat;omega)
  have:=foldAll_pos L _ (by rw [orAll_length];exact hz) h1;simp only [List.foldl_cons,List.isEmpty_cons,Bool.not_false,bne_iff_ne,ne_eq];omega
end Go.Proofs.YtlnmioijgclndaaGreatDoor
