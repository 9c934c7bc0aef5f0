import Derived.Test.YtkeoflnmbcdmfaaGreatDoorR4M
set_option maxRecDepth 8000
namespace Go.Proofs.YtkeoflnmbcdmfaaGreatDoor
open Go.ChangeShapes Go.WideShapes Go.ChangeAt Go.RowKit
def emN (g:List Int) (s k:Nat):Nat:=if nth g k=0 then 2^(s+1)-2 else 2^(nth g k).toNat
def emG (g:List Int) (s:Int) (k:Nat):Int:=(emN g s.toNat k:Int)
def emL (g:List Int) (s:Int):List Int:=mapTo (emG g s) g.length
theorem pow_even:∀ s∈[2,3,4],∀ v,v<5->1<=v->v<=s->2^v<=2^(s+1)-2/\2^v%2=0:=by decide
theorem all_even:∀ s∈[2,3,4],(2^(s+1)-2)%2=0/\2^(s+1)-2<=30:=by decide
theorem emL_valid {g:List Int} {s:Nat} (hs:s∈[2,3,4]) (hg:gv g s=true):mvd (emL g s) s=true:=by
 have hl:=gv_len hg;have h24:=gv_size hg
 have h1:inr (s:Int) 2 4=true:=by simp [inr];omega
 have h3:(emL g s).all (mkOk (2^((s:Int).toNat+1)-2))=true:=by
  refine allTo_all (n:=g.length) (fun j hj=>?_) (mapTo_length _ _);unfold emL;rw [mapTo_nth hj]
  have hp:((2:Int)^(s+1)-2)=((2^(s+1)-2:Nat):Int):=by
   simp at hs
   rcases hs with rfl|rfl|rfl<;>rfl
  obtain ⟨v0,v4⟩:=gv_nth hg hj
  have key:emN g s j<=2^(s+1)-2/\emN g s j%2=0:=by
   unfold emN
   split
   ·exact ⟨Nat.le_refl _,(all_even s hs).1⟩
   ·exact pow_even s hs _ (by omega) (by omega) (by omega)
  simp only [mkOk,emG,Int.toNat_natCast,Bool.and_eq_true,beq_iff_eq];rw [hp,Int.tmod_eq_emod_of_nonneg (Int.natCast_nonneg _)];refine ⟨by simp only [inr,decide_eq_true_eq];omega,by omega⟩
 have h2:((emL g s).length:Int)=(s:Int)*s:=by unfold emL;rw [mapTo_length];exact hl
 simp only [mvd,h1,h3,Bool.true_and,Bool.and_true,beq_iff_eq];exact h2
def rpB (k:Int) (xs:List Int) (v:Int) (g:List Int) (s:Int):Bool:=rv k xs v s&&gv g s&&(nth (rmL k xs v (emL g s) s) 0 != 0)
set_option maxHeartbeats 1000000 in
theorem specRulePossible (A:Option Addr) (c n B:Nat) (xs:List Int) (k v size:Int) (Ag:Option Addr) (cg ng Bg:Nat) (g:List Int) (w:World) (h:Rd w B A n xs) (hB:B<=w.heap.size) (hm:n<=1099511627776) (hr:Rd w Bg Ag ng g) (hBg:Bg<=w.heap.size) (hmm:ng<=1099511627776) (hs64: -9223372036854775808<=size/\size<=9223372036854775807):
 Calls Tryz.prog 177 #[.agg #[.int .i64 k,.slice A n c,.int .i64 v],.slice Ag ng cg,.int .i64 size] w fun e w'=>e=.returned (.bool (rpB k xs v g size))/\Below w.heap.size w w':=by
 have hlen:=Lib.hid h.1;have hleng:=Lib.hid hr.1;have hx0:=rbox_new w k A n c v 88;have hb0:Below w.heap.size w (w.alloc (.cells #[.int .i64 k,.slice A n c,.int .i64 v] 88)):=(Below.refl _ _).alloc (Nat.le_refl _) _
 have hsz0:w.heap.size<(w.alloc (.cells #[.int .i64 k,.slice A n c,.int .i64 v] 88)).heap.size:=by simp
 have HV:Hid (∀ w',Below w.heap.size w w'->Calls Tryz.prog 71 #[.agg #[.int .i64 k,.slice A n c,.int .i64 v],.int .i64 size] w' fun e w''=>e=.returned (.bool (rv k xs v size))/\Below w'.heap.size w' w''):=
  Lib.hid (fun w' hb=>specRuleValid A c n B xs k v size w' (h.below (hb.mono hB)) (Nat.le_trans hB hb.size) hm)
 have HG:Hid (∀ w',Below w.heap.size w w'->Calls Tryz.prog 72 #[.slice Ag ng cg,.int .i64 size] w' fun e w''=>e=.returned (.bool (gv g size))/\w'=w''):=
  Lib.hid (fun w' hb=>specGridValid _ _ _ _ _ _ _ (hr.below (hb.mono hBg)) hmm)
 cases hv:rv k xs v size
 ·have HL:=Lib.hid (show rpB k xs v g size=false by simp [rpB,hv])
  go_enter Tryz.func177,Tryz.ntmps177
  go_wp2_with (go_at_call 71;refine (HV.out _ hb0).mono ?_;rintro e w1 ⟨rfl,hb1⟩;rw [hv];have hB1:=step hb0 hb1;clear hb1)
  go_ret
  exact ⟨by rw [HL.out];rfl,hB1⟩
 ·cases hg:gv g size
  ·have HL:=Lib.hid (show rpB k xs v g size=false by simp [rpB,hg])
   go_enter Tryz.func177,Tryz.ntmps177
   go_wp2_with (first|(go_at_call 71;refine (HV.out _ hb0).mono ?_;rintro e w1 ⟨rfl,hb1⟩;rw [hv];have hB1:=step hb0 hb1;have hx1:=hx0.below hsz0 hb1;obtain ⟨c0,c1,c2⟩:=hx1;clear hb1)|(go_at_call 72;refine (HG.out _ hB1).mono ?_;rintro e w2 ⟨rfl,rfl⟩;rw [hg]))
   go_ret
   exact ⟨by rw [HL.out];rfl,hB1⟩
  ·obtain ⟨⟨s2,s4⟩,⟨n1,n4⟩,_,_⟩:=rv_facts hlen.out hv;obtain ⟨s,rfl⟩:=Int.eq_ofNat_of_zero_le (by omega:0<=size)
   have hs:s∈[2,3,4]:=by
    have:s=2\/s=3\/s=4:=(by omega)
    simpa using this
   have hgl:=gv_len hg;rw [hleng.out] at hgl;have hgb:=(sq_bd s2 s4).2;have hng:ng<=16:=(by omega);have Hok:Hid (∀ i,i<ng->0<=nth g i/\nth g i<=s):=Lib.hid (fun i hi=>gv_nth hg (by rw [hleng.out];exact hi));have hmv:=emL_valid hs hg;have HL:=Lib.hid (show rpB k xs v g s=(nth (rmL k xs v (emL g s) s) 0 != 0) by simp only [rpB,hv,hg,Bool.true_and])
   have hrl:(rmL k xs v (emL g s) s).length=n:=by
    unfold rmL;rw [if_pos (by simp only [hv,hmv,Bool.and_true]),nats_length,(rmN_inv k xs v (emL g s)).1];exact hlen.out
   have Hel:=Lib.hid (show emL g s=mapTo (emG g s) ng by unfold emL;rw [hleng.out])
   have Hall:Hid (wrap64 (wrap64 (2^(s+1))-2)=((2^(s+1)-2:Nat):Int)):=by
    refine Lib.hid ?_
    simp at hs
    rcases hs with rfl|rfl|rfl
    ·show wrap64 (wrap64 8-2)=6
     rw [IntWalk.wrap64_in 8 ⟨by omega,by omega⟩];exact IntWalk.wrap64_in 6 ⟨by omega,by omega⟩
    ·show wrap64 (wrap64 16-2)=14
     rw [IntWalk.wrap64_in 16 ⟨by omega,by omega⟩];exact IntWalk.wrap64_in 14 ⟨by omega,by omega⟩
    ·show wrap64 (wrap64 32-2)=30
     rw [IntWalk.wrap64_in 32 ⟨by omega,by omega⟩];exact IntWalk.wrap64_in 30 ⟨by omega,by omega⟩
   clear hmv hgl hgb
   go_enter Tryz.func177,Tryz.ntmps177
   go_wp2_with (first|(go_at_call 71;refine (HV.out _ hb0).mono ?_;rintro e w1 ⟨rfl,hb1⟩;rw [hv];have hB1:=step hb0 hb1;have hx1:=hx0.below hsz0 hb1;have hsz1:=Nat.lt_of_lt_of_le hsz0 hb1.size;obtain ⟨c0,c1,c2⟩:=id hx1;clear hb1)|(go_at_call 72;refine (HG.out _ hB1).mono ?_;rintro e w2 ⟨rfl,rfl⟩;rw [hg]))
   have hBe:=hB1.alloc hB1.size (.cells #[] 3);have hxe:=hx1.below hsz1 ((Below.refl _ _).alloc (Nat.le_refl _) (.cells #[] 3));have hsw:w.heap.size+1<=w1.heap.size:=hsz1
   go_loopw [7,8] (fun vv i wr=>∃ u:Nat,u<=ng/\i=.int .i64 u/\OwV wr (w.heap.size+1) vv (mapTo (emG g s) u)/\RBox wr w.heap.size k A n c v/\Below w.heap.size w wr/\w.heap.size+1<=wr.heap.size) (fun _ i _=>ng-(intOf i).toNat)
   case atStart=>exact ⟨0,by omega,rfl,⟨_,_,rfl,Ow.made0 _ _ hsw⟩,hxe,hBe,by rw [World.size_alloc];omega⟩
   case round=>
    obtain ⟨u,hu,rfl,⟨A',c',rfl,ho⟩,hx,hb,hsr⟩:=hrel;have hkb:(mapTo (emG g s) u).length<=1099511627776:=(by rw [mapTo_length];omega)
    by_cases hlt:u<ng
    ·obtain ⟨b,off,rfl,hbB,hck⟩:=(hr.below (hb.mono hBg)).at_ hlt;obtain ⟨x0,x4⟩:=Hok.out u hlt;obtain ⟨x,hxv⟩:=Int.eq_ofNat_of_zero_le x0;rw [hxv] at hck
     by_cases hz:x=0
     ·subst hz
      have Hem:=Lib.hid (show wrap64 (wrap64 (2^(s+1))-2)=emG g s u by
       rw [Hall.out];simp only [emG,emN,hxv,Int.toNat_natCast];rfl)
      go_wp2_with (at_builtin;refine push_int rfl (.tmp 41) (.tmp 43) rfl (w.heap.size+1) A' _ c' (mapTo (emG g s) u) _ rfl rfl ho hkb hsr ?_;intro A'' c'' w4 ho4 hg4;rw [Hem.out] at ho4)
      have ho5:OwV w4 (w.heap.size+1) (.slice A'' ((mapTo (emG g s) u).length+1) c'') (mapTo (emG g s) (u+1)):=by
       refine ⟨A'',c'',by rw [mapTo_succ,List.length_append];rfl,?_⟩;rw [mapTo_succ,List.length_append];exact ho4
      have hb4:=push_below hb ho (Nat.le_succ _) hb.size hg4;have hb4':=push_below (Below.refl (w.heap.size+1) wr) ho (Nat.le_refl _) hsr hg4;have hx4:=hx.below (Nat.lt_succ_self _) hb4';clear ho4 hg4
      go_roundw
      case rel=>exact ⟨u+1,by omega,by go_num,ho5,hx4,hb4,Nat.le_trans hsr hb4'.size⟩
      case measure=>simp [intOf];omega
     ·have hz1:((x:Int)==0)=false:=(by simp;omega)
      have Hem:=Lib.hid (show wrap64 (2^x)=emG g s u by
       rw [two_pow_nat x (by omega)];simp only [emG,emN,hxv,Int.toNat_natCast];rw [if_neg (by omega)])
      go_wp2_with (at_builtin;refine push_int rfl (.tmp 41) (.tmp 43) rfl (w.heap.size+1) A' _ c' (mapTo (emG g s) u) _ rfl rfl ho hkb hsr ?_;intro A'' c'' w4 ho4 hg4;rw [Hem.out] at ho4)
      have ho5:OwV w4 (w.heap.size+1) (.slice A'' ((mapTo (emG g s) u).length+1) c'') (mapTo (emG g s) (u+1)):=by
       refine ⟨A'',c'',by rw [mapTo_succ,List.length_append];rfl,?_⟩;rw [mapTo_succ,List.length_append];exact ho4
      have hb4:=push_below hb ho (Nat.le_succ _) hb.size hg4;have hb4':=push_below (Below.refl (w.heap.size+1) wr) ho (Nat.le_refl _) hsr hg4;have hx4:=hx.below (Nat.lt_succ_self _) hb4';clear ho4 hg4
      go_roundw
      case rel=>exact ⟨u+1,by omega,by go_num,ho5,hx4,hb4,Nat.le_trans hsr hb4'.size⟩
      case measure=>simp [intOf];omega
    ·obtain rfl:u=ng:=by omega
     obtain ⟨c0,c1,c2⟩:=id hx;rw [mapTo_length] at ho;rw [mapTo_length];rw [<- Hel.out] at ho;have HM:=Lib.hid (specRuleMasks A c n B xs k v s A' c' u wr.heap.size (emL g s) wr (h.below (hb.mono hB)) (Nat.le_trans hB hb.size) hm ho.rd (Nat.le_refl _) (by omega) (by omega))
     go_wp2_with (go_at_call 173;refine HM.out.mono ?_;rintro e w5 ⟨A5,c5,rfl,ho5,hb5⟩;rw [hrl] at ho5 ⊢;obtain ⟨g5,rfl,_,_⟩:=ho5.form (by omega);obtain ⟨hc5,_⟩:=ho5.cell (show 0<n by omega))
     go_ret
     exact ⟨by rw [HL.out];rfl,step hb hb5⟩
end Go.Proofs.YtkeoflnmbcdmfaaGreatDoor
