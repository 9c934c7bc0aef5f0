import Derived.Test.YtkeoflnmbcdmfaaGreatDoorQ4H
namespace Go.Proofs.YtkeoflnmbcdmfaaGreatDoor
open Go.ChangeShapes Go.WideShapes Go.ChangeAt Go.RowKit
theorem diffTo_false {vs:List Int} {u n:Nat} (h:u<n) (e:diffTo vs (u+1)=false):diffTo vs n=false:=by
 induction n with
 |zero=>omega
 |succ n ih=>
  by_cases h':u=n
  ·subst h';exact e
  ·simp only [diffTo,ih (by omega),Bool.false_and]
theorem differentHolds (A:Option Addr) (c n:Nat) (A2:Option Addr) (c2 n2 B:Nat) (vs:List Int) (k v:Int) (w:World) (h:Rd w B A2 n2 vs) (hB:B<=w.heap.size) (h4:n2<=4) (hcap:n2<=c2):
 Calls Tryz.prog 220 #[.agg #[.int .i64 k,.slice A n c,.int .i64 v],.slice A2 n2 c2] w fun e w'=>e=.returned (.bool (diffTo vs n2))/\Below w.heap.size w w':=by
 have hx0:=rbox_new w k A n c v 183;have hb0:Below w.heap.size w (w.alloc (.cells #[.int .i64 k,.slice A n c,.int .i64 v] 183)):=(Below.refl _ _).alloc (Nat.le_refl _) _
 go_enter Tryz.func220,Tryz.ntmps220
 go_wp2
 go_loopw [9] (fun i wr=>∃ u:Nat,u<=n2/\i=.int .i64 u/\diffTo vs u=true/\Below w.heap.size w wr) (fun i _=>n2-(intOf i).toNat)
 case atStart=>exact ⟨0,Nat.zero_le _,rfl,rfl,hb0⟩
 case round=>
  obtain ⟨u,hu,rfl,hd,hb⟩:=hrel
  by_cases hlt:u<n2
  ·have hr:=h.below (hb.mono hB);obtain ⟨b,off,rfl,hbB,hck⟩:=hr.at_ hlt;have ht:=hr.take hu;have hmem:memTo (vs.take u) (nth vs u) u=memTo vs (nth vs u) u:=memTo_congr (fun i hi=>nth_take hi);have hst:diffTo vs (u+1)= !(memTo vs (nth vs u) u):=(by simp only [diffTo,hd,newTo_has,Bool.true_and])
   have hC:Hid (∀ cc,Calls Tryz.prog 66 #[.slice (some ⟨b,off,none⟩) u cc,.int .i64 (nth vs u)] wr fun e w'=>e=.returned (.bool (memTo vs (nth vs u) u))/\wr=w'):=
    Lib.hid (fun cc=>by rw [<- hmem];exact contains_any _ _ _ _ _ _ _ ht (by omega))
   have Hst:=Lib.hid hst;have Hd:=Lib.hid hd;clear hst hmem ht hr hd;have hu2:u<=c2:=(by omega);cases hm:memTo vs (nth vs u) u
   ·go_wp2_with (go_at_call 66;refine (hC.out _).mono ?_;rintro e w' ⟨rfl,rfl⟩;rw [hm])
    go_roundw
    case rel=>exact ⟨u+1,by omega,by go_num,by rw [Hst.out,hm];rfl,hb⟩
    case measure=>simp [intOf];omega
   ·have Hf:=Lib.hid (show diffTo vs n2=false from diffTo_false hlt (by rw [Hst.out,hm];rfl))
    go_wp2_with (go_at_call 66;refine (hC.out _).mono ?_;rintro e w' ⟨rfl,rfl⟩;rw [hm])
    go_ret
    exact ⟨by rw [Hf.out];rfl,hb⟩
  ·obtain rfl:u=n2:=by omega
   have Hd:=Lib.hid hd
   go_wp2
   go_ret
   exact ⟨by rw [Hd.out];rfl,hb⟩
theorem sumHolds (A:Option Addr) (c n:Nat) (A2:Option Addr) (c2 n2 B:Nat) (vs:List Int) (k v:Int) (w:World) (h:Rd w B A2 n2 vs) (hB:B<=w.heap.size) (h4:n2<=4) (hv:Hid (small4 vs n2)):
 Calls Tryz.prog 222 #[.agg #[.int .i64 k,.slice A n c,.int .i64 v],.slice A2 n2 c2] w fun e w'=>e=.returned (.bool ((sumN vs n2:Int)==v))/\Below w.heap.size w w':=by
 have hx0:=rbox_new w k A n c v 184;have hb0:Below w.heap.size w (w.alloc (.cells #[.int .i64 k,.slice A n c,.int .i64 v] 184)):=(Below.refl _ _).alloc (Nat.le_refl _) _
 have hsz0:w.heap.size<(w.alloc (.cells #[.int .i64 k,.slice A n c,.int .i64 v] 184)).heap.size:=by simp
 go_enter Tryz.func222,Tryz.ntmps222
 go_wp2
 go_loopw [5,10] (fun s i wr=>∃ u:Nat,u<=n2/\i=.int .i64 u/\s=.int .i64 (sumN vs u:Int)/\RBox wr w.heap.size k A n c v/\Below w.heap.size w wr) (fun _ i _=>n2-(intOf i).toNat)
 case atStart=>exact ⟨0,Nat.zero_le _,rfl,rfl,hx0,hb0⟩
 case round=>
  obtain ⟨u,hu,rfl,rfl,hx,hb⟩:=hrel;obtain ⟨hk0,hk1,hk2⟩:=id hx
  by_cases hlt:u<n2
  ·obtain ⟨b,off,rfl,hbB,hck⟩:=(h.below (hb.mono hB)).at_ hlt;obtain ⟨x0,x4⟩:=hv.out u hlt;obtain ⟨x,hxv⟩:=Int.eq_ofNat_of_zero_le x0;rw [hxv] at hck;have hs1:=sumN_le hv.out u hu;have hS:=Lib.hid (show sumN vs (u+1)=sumN vs u+x by simp only [sumN,hxv,Int.toNat_natCast])
   go_wp2
   go_roundw
   case rel=>exact ⟨u+1,by omega,by go_num,by rw [hS.out];rfl,hx,hb⟩
   case measure=>simp [intOf];omega
  ·obtain rfl:u=n2:=by omega
   go_wp2
   go_ret
   exact ⟨rfl,hb⟩
theorem productHolds (A:Option Addr) (c n:Nat) (A2:Option Addr) (c2 n2 B:Nat) (vs:List Int) (k v:Int) (w:World) (h:Rd w B A2 n2 vs) (hB:B<=w.heap.size) (h4:n2<=4) (hv:Hid (small4 vs n2)):
 Calls Tryz.prog 225 #[.agg #[.int .i64 k,.slice A n c,.int .i64 v],.slice A2 n2 c2] w fun e w'=>e=.returned (.bool ((prodN vs n2:Int)==v))/\Below w.heap.size w w':=by
 have hx0:=rbox_new w k A n c v 185;have hb0:Below w.heap.size w (w.alloc (.cells #[.int .i64 k,.slice A n c,.int .i64 v] 185)):=(Below.refl _ _).alloc (Nat.le_refl _) _
 have hsz0:w.heap.size<(w.alloc (.cells #[.int .i64 k,.slice A n c,.int .i64 v] 185)).heap.size:=by simp
 go_enter Tryz.func225,Tryz.ntmps225
 go_wp2
 go_loopw [5,10] (fun s i wr=>∃ u:Nat,u<=n2/\i=.int .i64 u/\s=.int .i64 (prodN vs u:Int)/\RBox wr w.heap.size k A n c v/\Below w.heap.size w wr) (fun _ i _=>n2-(intOf i).toNat)
 case atStart=>exact ⟨0,Nat.zero_le _,rfl,rfl,hx0,hb0⟩
 case round=>
  obtain ⟨u,hu,rfl,rfl,hx,hb⟩:=hrel;obtain ⟨hk0,hk1,hk2⟩:=id hx
  by_cases hlt:u<n2
  ·obtain ⟨b,off,rfl,hbB,hck⟩:=(h.below (hb.mono hB)).at_ hlt;obtain ⟨x0,x4⟩:=hv.out u hlt;obtain ⟨x,hxv⟩:=Int.eq_ofNat_of_zero_le x0;rw [hxv] at hck;have hp1:=prodN_le hv.out u hu;have hp2:(4:Nat)^u<=4^3:=Nat.pow_le_pow_right (by omega) (by omega);have hS:=Lib.hid (show prodN vs (u+1)=prodN vs u*x by simp only [prodN,hxv,Int.toNat_natCast]);have hm1:prodN vs u*x<=64*4:=Nat.mul_le_mul (by omega) (by omega)
   have e1:wrap64 ((prodN vs u:Int)*(x:Int))=((prodN vs u*x:Nat):Int):=by
    rw [<- Int.natCast_mul];exact IntWalk.wrap64_in _ ⟨by omega,by omega⟩
   clear hp1 hp2
   go_wp2
   go_roundw
   case rel=>exact ⟨u+1,by omega,by go_num,by rw [hS.out];rfl,hx,hb⟩
   case measure=>simp [intOf];omega
  ·obtain rfl:u=n2:=by omega
   go_wp2
   go_ret
   exact ⟨rfl,hb⟩
theorem lessHolds (A:Option Addr) (c n:Nat) (A2:Option Addr) (c2 n2 B:Nat) (vs:List Int) (k v:Int) (w:World) (h:Rd w B A2 n2 vs) (hB:B<=w.heap.size) (h2:2<=n2):
 Calls Tryz.prog 227 #[.agg #[.int .i64 k,.slice A n c,.int .i64 v],.slice A2 n2 c2] w fun e w'=>e=.returned (.bool (decide (nth vs 0<nth vs 1)))/\Below w.heap.size w w':=by
 have hx0:=rbox_new w k A n c v 186;have hb0:Below w.heap.size w (w.alloc (.cells #[.int .i64 k,.slice A n c,.int .i64 v] 186)):=(Below.refl _ _).alloc (Nat.le_refl _) _;obtain ⟨b,off,rfl,hbB,hc0⟩:=(h.below (hb0.mono hB)).at_ (show 0<n2 by omega);obtain ⟨b',off',e2,_,hc1⟩:=(h.below (hb0.mono hB)).at_ (show 1<n2 by omega);cases e2;rw [Nat.add_zero] at hc0
 have i0:0<n2:=by omega
 have i1:1<n2:=by omega
 have i2:(0:Int)<(n2:Int):=by omega
 have i3:(1:Int)<(n2:Int):=by omega
 go_enter Tryz.func227,Tryz.ntmps227
 go_wp2
 go_quiet (fail)
 go_wp2
 go_ret
 exact ⟨rfl,below_drewN hb0 _⟩
theorem apartHolds (A:Option Addr) (c n:Nat) (A2:Option Addr) (c2 n2 B:Nat) (vs:List Int) (k v:Int) (w:World) (h:Rd w B A2 n2 vs) (hB:B<=w.heap.size) (h2:2<=n2) (hv:Hid (small4 vs n2)):
 Calls Tryz.prog 229 #[.agg #[.int .i64 k,.slice A n c,.int .i64 v],.slice A2 n2 c2] w fun e w'=>e=.returned (.bool (gap vs==v))/\Below w.heap.size w w':=by
 have hx0:=rbox_new w k A n c v 187;have hb0:Below w.heap.size w (w.alloc (.cells #[.int .i64 k,.slice A n c,.int .i64 v] 187)):=(Below.refl _ _).alloc (Nat.le_refl _) _;obtain ⟨k0,k1,k2⟩:=hx0;obtain ⟨b,off,rfl,hbB,hc0⟩:=(h.below (hb0.mono hB)).at_ (show 0<n2 by omega);obtain ⟨b',off',e2,_,hc1⟩:=(h.below (hb0.mono hB)).at_ (show 1<n2 by omega);cases e2;rw [Nat.add_zero] at hc0
 have i0:0<n2:=by omega
 have i1:1<n2:=by omega
 have i2:(0:Int)<(n2:Int):=by omega
 have i3:(1:Int)<(n2:Int):=by omega
 obtain ⟨y0,y4⟩:=hv.out 0 (by omega);obtain ⟨z0,z4⟩:=hv.out 1 (by omega);have e3:IntKind.i64.wrap (max (nth vs 0) (nth vs 1)-min (nth vs 0) (nth vs 1))=max (nth vs 0) (nth vs 1)-min (nth vs 0) (nth vs 1):=IntWalk.i64_in _ (by omega)
 go_enter Tryz.func229,Tryz.ntmps229
 go_wp2
 go_quiet (fail)
 go_wp2
 all_goals go_ret
 all_goals exact ⟨by first|(rw [show (gap vs==v)=(nth vs 1-nth vs 0==v) by (congr 1;unfold gap;omega)];rfl)|(rw [show (gap vs==v)=(nth vs 0-nth vs 1==v) by (congr 1;unfold gap;omega)];rfl)|(rw [show (gap vs==v)=((0:Int)==v) by (congr 1;unfold gap;omega)];rfl),below_drewN hb0 _⟩
end Go.Proofs.YtkeoflnmbcdmfaaGreatDoor
