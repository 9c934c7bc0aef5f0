import Derived.Test.YtkeoflnmbcdmfaaGreatDoorR4H
import Derived.Test.YtkeoflnmbcdmfaaGreatDoorC3C
import Derived.Test.YtkeoflnmbcdmfaaGreatDoorPushAll
namespace Go.Proofs.YtkeoflnmbcdmfaaGreatDoor
open Go.ChangeShapes Go.WideShapes Go.ChangeAt Go.RowKit
def nats (F:List Nat):List Int:=F.map fun (n:Nat)=>(n:Int)
theorem nats_length (F:List Nat):(nats F).length=F.length:=by simp [nats]
theorem nats_nth (F:List Nat) (i:Nat):nth (nats F) i=((F.getD i 0:Nat):Int):=by
 simp only [nth,nats,List.getD_eq_getElem?_getD,List.getElem?_map]
 cases F[i]? <;>rfl
def orTo (vs:List Int) (F:List Nat) (t:Nat):List Nat:=(List.range F.length).map fun i=>if i<t then F.getD i 0|||2^(nth vs i).toNat else F.getD i 0
theorem orTo_length (vs:List Int) (F:List Nat) (t:Nat):(orTo vs F t).length=F.length:=by simp [orTo]
theorem orTo_zero (vs:List Int) (F:List Nat):orTo vs F 0=F:=by
 apply List.ext_getElem (orTo_length _ _ _)
 intro i h1 h2
 simp [orTo,List.getD_eq_getElem?_getD,h2]
theorem orTo_get {vs:List Int} {F:List Nat} {t i:Nat} (h:i<F.length):(orTo vs F t).getD i 0=if i<t then F.getD i 0|||2^(nth vs i).toNat else F.getD i 0:=by
 simp [orTo,List.getD_eq_getElem?_getD,h]
theorem orTo_set (vs:List Int) (F:List Nat) (t:Nat):(vals (nats (orTo vs F t))).set t (.int .i64 ((F.getD t 0|||2^(nth vs t).toNat:Nat):Int))=vals (nats (orTo vs F (t+1))):=by
 apply List.ext_getElem
 ·simp [vals,nats,orTo]
 ·intro i h1 h2;simp only [vals,nats,orTo,List.map_map,List.getElem_set,List.getElem_map,List.getElem_range,Function.comp]
  by_cases e:t=i
  ·subst e;simp
  ·rw [if_neg e]
   by_cases h:i<t
   ·rw [if_pos h,if_pos (by omega)]
   ·rw [if_neg h,if_neg (by omega)]
def lt32 (F:List Nat):Prop:=∀ i,F.getD i 0<32
theorem orTo_lt {vs:List Int} {F:List Nat} {t n:Nat} (h:lt32 F) (hl:F.length=n) (hv:small4 vs n):lt32 (orTo vs F t):=fun i=>by
 by_cases hi:i<F.length
 ·rw [orTo_get hi]
  split
  ·have:=hv i (by omega);exact Nat.or_lt_two_pow (n:=5) (h i) (Nat.pow_lt_pow_right (by omega) (by omega))
  ·exact h i
 ·have:(orTo vs F t).getD i 0=0:=by simp [List.getD_eq_getElem?_getD,List.getElem?_eq_none (by rw [orTo_length];omega:(orTo vs F t).length<=i)]
  rw [this];omega
def foldN (step:Int->List Nat->List Nat) (L:List Int):Nat->List Nat->List Nat
 |0,F=>F
 |t+1,F=>step (nth L t) (foldN step L t F)
def waysF (k v:Int) (xs ms:List Int):Nat->List Int->List Nat->List Nat
 |0,vs,F=>if holdsB k v vs=true then orTo vs F F.length else F
 |d+1,vs,F=>foldN (fun x G=>waysF k v xs ms d (vs++[x]) G) (maskVals (nth ms (nth xs vs.length).toNat)) (maskVals (nth ms (nth xs vs.length).toNat)).length F
theorem bitsTo_small (M u:Nat) (hu:u<=4):∀ i,i<(bitsTo M u).length->1<=nth (bitsTo M u) i/\nth (bitsTo M u) i<=4:=by
 have key:∀ y∈bitsTo M u,1<=y/\y<=(u:Int):=by
  induction u with
  |zero=>intro y hy;simp [bitsTo] at hy
  |succ u ih=>
   intro y hy;simp only [bitsTo,List.mem_append] at hy
   rcases hy with h|h
   ·have:=ih (by omega) y h;omega
   ·split at h
    ·simp at h;omega
    ·simp at h
 intro i hi
 have e:nth (bitsTo M u) i=(bitsTo M u)[i]:=by simp [nth,List.getD_eq_getElem?_getD,hi]
 rw [e];have:=key _ (List.getElem_mem hi);omega
theorem maskVals_small (m:Int):∀ i,i<(maskVals m).length->1<=nth (maskVals m) i/\nth (maskVals m) i<=4:=by
 intro i hi;unfold maskVals at hi ⊢
 split
 ·rename_i h
  rw [if_pos h] at hi;exact bitsTo_small _ 4 (by omega) i hi
 ·rename_i h
  rw [if_neg h] at hi
  simp at hi
theorem nth_push {vs:List Int} {x:Int} {n i:Nat} (hl:vs.length=n):nth (vs++[x]) i=if i<n then nth vs i else if i=n then x else 0:=by
 simp only [nth,List.getD_eq_getElem?_getD]
 split
 ·rw [List.getElem?_append_left (by omega)]
 ·split
  ·subst hl;rename_i h;subst h;simp
  ·rw [List.getElem?_eq_none (by rw [List.length_append,List.length_singleton];omega)];rfl
theorem small4_push {vs:List Int} {x:Int} {n:Nat} (h:small4 vs n) (hl:vs.length=n) (x0:0<=x) (x4:x<=4):small4 (vs++[x]) (n+1):=fun i hi=>by
 rw [nth_push hl]
 split
 ·exact h i (by omega)
 ·rw [if_pos (by omega)];exact ⟨x0,x4⟩
theorem foldN_inv {step:Int->List Nat->List Nat} {L:List Int} {P:List Nat->Prop} {m:Nat} (hs:∀ i,i<m->∀ F,P F->P (step (nth L i) F)):∀ t,t<=m->∀ F,P F->P (foldN step L t F):=by
 intro t
 induction t with
 |zero=>intro _ F h;exact h
 |succ t ih=>intro ht F h;exact hs t (by omega) _ (ih (by omega) F h)
theorem waysF_inv (k v:Int) (xs ms:List Int) (n:Nat):∀ d vs F,vs.length+d=n->small4 vs vs.length->F.length=n->lt32 F->(waysF k v xs ms d vs F).length=n/\lt32 (waysF k v xs ms d vs F):=by
 intro d
 induction d with
 |zero=>
  intro vs F hd hv hl h;simp only [waysF]
  split
  ·exact ⟨by rw [orTo_length,hl],orTo_lt h hl (by rw [<- hd];exact hv)⟩
  ·exact ⟨hl,h⟩
 |succ d ih=>
  intro vs F hd hv hl h;simp only [waysF];refine foldN_inv (P:=fun F=>F.length=n/\lt32 F) (m:=(maskVals (nth ms (nth xs vs.length).toNat)).length) (fun i hi F hF=>?_) _ (Nat.le_refl _) F ⟨hl,h⟩;have:=maskVals_small _ i hi;exact ih _ F (by rw [List.length_append,List.length_singleton];omega) (by rw [List.length_append,List.length_singleton];exact small4_push hv rfl (by omega) (by omega)) hF.1 hF.2
theorem Rd.grown {w w':World} {B:Nat} {A:Option Addr} {n:Nat} {xs:List Int} {G:Nat} (h:Rd w B A n xs) (hg:w.grownBy w' (some G)) (hne:∀ b off,A=some ⟨b,off,none⟩->b≠G) (hB:B<=w.heap.size):Rd w' B A n xs:=
 ⟨h.1,fun hn=>by
   obtain ⟨b,off,e,hlt,hc⟩:=h.2 hn
   exact ⟨b,off,e,hlt,fun k hk=>(hg.cell_far ⟨b,off+k,none⟩ (by show b<_;omega) (fun e2=>hne b off e (by injection e2))).trans (hc k hk)⟩⟩
theorem grown_of_below {w w':World} {G:Nat} (h:Below w.heap.size w w'):w.grownBy w' (some G):=⟨h.os,h.tape,h.output,h.size,fun k hk _=>h.block k hk⟩
theorem grown_set {w:World} {G i:Nat} {v:Value}:w.grownBy (w.setCell ⟨G,i,none⟩ v) (some G):=⟨rfl,rfl,rfl,by simp [World.setCell],fun k _ hk=>heap_setCell_other w ⟨G,i,none⟩ k v (fun e=>hk (by rw [e]))⟩
theorem grown_drew {w w':World} {r:Option Nat} (h:w.grownBy w' r):w.grownBy w'.drew r:=⟨h.os,h.tape,h.output,h.size,h.block⟩
theorem or_int' (a x:Nat) (ha:a<32) (hx:x<=4):bits .or .i64 (a:Int) (wrap64 (2^x))=((a|||2^x:Nat):Int):=or_int a x ha hx
def WaysPost (w:World) (lo G n c:Nat) (F:List Nat) (e:Ending) (w':World):Prop:=e=.returned (.tuple #[])/\Ow w' lo (some ⟨G,0,none⟩) n c (nats F)/\w.grownBy w' (some G)
set_option maxHeartbeats 1000000 in
theorem ways_end (k v:Int) (xs ms:List Int) (A:Option Addr) (c n:Nat) (Am:Option Addr) (cm nm:Nat) (hk:k=1\/k=2\/k=3\/2<=n) (hn4:n<=4) (lo G cF:Nat) (A2:Option Addr) (c2 B2:Nat) (vs:List Int) (F:List Nat) (w:World)
 (hr2:Rd w B2 A2 n vs) (hB2:B2<=w.heap.size) (hne2:∀ b off,A2=some ⟨b,off,none⟩->b≠G) (hv:Hid (small4 vs n)) (hF:Ow w lo (some ⟨G,0,none⟩) n cF (nats F)) (hlF:F.length=n) (h32:Hid (lt32 F)):
 Calls Tryz.prog 190 #[.agg #[.int .i64 k,.slice A n c,.int .i64 v],.slice Am nm cm,.slice A2 n c2,.slice (some ⟨G,0,none⟩) n cF] w (WaysPost w lo G n cF (waysF k v xs ms 0 vs F)):=by
 have hx0:=rbox_new w k A n c v 88;have hb0:Below w.heap.size w (w.alloc (.cells #[.int .i64 k,.slice A n c,.int .i64 v] 88)):=(Below.refl _ _).alloc (Nat.le_refl _) _;have hr2':=hr2.below (hb0.mono hB2);have hF0:=hF.below hb0;have hB2':B2<=(w.alloc (.cells #[.int .i64 k,.slice A n c,.int .i64 v] 88)).heap.size:=Nat.le_trans hB2 hb0.size
 have hnn:((n:Int)==(n:Int))=true:=by simp
 have Hx0:=Lib.hid hx0;cases hh:holdsB k v vs
 ·have HL:=Lib.hid (show waysF k v xs ms 0 vs F=F by simp [waysF,hh])
  go_enter Tryz.func190,Tryz.ntmps190
  go_wp2_with (go_at_call 200;refine (specHolds A c n A2 c2 n B2 vs k v _ hr2' hB2' hn4 hv hk).mono ?_;rintro e w1 ⟨rfl,hb1⟩;rw [hh])
  (try simp only [Exit.inBlock,Exit.then])
  refine bodyPost_ret (results_none rfl _ _ _) rfl ?_;rw [HL.out];exact ⟨rfl,hF0.below hb1,grown_of_below (step hb0 hb1)⟩
 ·have HL:=Lib.hid (show waysF k v xs ms 0 vs F=orTo vs F n by simp [waysF,hh,hlF])
  go_enter Tryz.func190,Tryz.ntmps190
  go_wp2_with (go_at_call 200;refine (specHolds A c n A2 c2 n B2 vs k v _ hr2' hB2' hn4 hv hk).mono ?_;rintro e w1 ⟨rfl,hb1⟩;rw [hh])
  have hF1:=hF0.below hb1;have hB1:=step hb0 hb1;have hg1:w.grownBy w1 (some G):=grown_of_below hB1;clear hb1 hx0 Hx0 hF0 hr2' hB2'
  go_loopw [9] (fun i wr=>∃ t:Nat,t<=n/\i=.int .i64 t/\Ow wr lo (some ⟨G,0,none⟩) n cF (nats (orTo vs F t))/\w.grownBy wr (some G)) (fun i _=>n-(intOf i).toNat)
  case atStart=>exact ⟨0,Nat.zero_le _,rfl,by rw [orTo_zero];exact hF1,hg1⟩
  case round=>
   obtain ⟨t,ht,rfl,hFt,hgt⟩:=hrel
   by_cases hlt:t<n
   ·obtain ⟨b,off,rfl,hbB,hck⟩:=(hr2.grown hgt hne2 hB2).at_ hlt;obtain ⟨x0,x4⟩:=hv.out t hlt;obtain ⟨x,hxv⟩:=Int.eq_ofNat_of_zero_le x0;rw [hxv] at hck;obtain ⟨hold,hfr⟩:=hFt.cell hlt;have hot:nth (nats (orTo vs F t)) t=((F.getD t 0:Nat):Int):=(by rw [nats_nth,orTo_get (by omega),if_neg (by omega)]);rw [hot] at hold;have hor:=or_int (F.getD t 0) x (h32.out t) (by omega);have hst:=(World.ownsRow.stored hFt t (.int .i64 ((F.getD t 0|||2^(nth vs t).toNat:Nat):Int))).1;rw [orTo_set vs F t,hxv,Int.toNat_natCast] at hst;obtain ⟨f,hf⟩:∃ f,f=F.getD t 0:=⟨_,rfl⟩
    rw [<- hf] at hold hor hst;have Hst:=Lib.hid hst;clear hf;have hnG:=hne2 b off rfl;have hx5:(x:Int)<64:=(by omega);clear hst hot
    go_wp2
    go_region
    all_goals
     go_wp2
     go_roundw
     case rel=>exact ⟨t+1,by omega,by go_num,World.ownsRow.drew Hst.out,grown_drew (hgt.trans grown_set)⟩
     case measure=>simp [intOf];omega
   ·obtain rfl:t=n:=by omega
    go_wp2
    (try simp only [Exit.inBlock,Exit.then])
    refine bodyPost_ret (results_none rfl _ _ _) rfl ?_;rw [HL.out];exact ⟨rfl,hFt,hgt⟩
end Go.Proofs.YtkeoflnmbcdmfaaGreatDoor
