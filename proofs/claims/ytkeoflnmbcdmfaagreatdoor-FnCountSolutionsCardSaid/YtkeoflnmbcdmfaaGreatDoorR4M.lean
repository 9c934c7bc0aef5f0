import Derived.Test.YtkeoflnmbcdmfaaGreatDoorR4X
import Derived.Test.YtkeoflnmbcdmfaaGreatDoorC3G
set_option maxRecDepth 8000
namespace Go.Proofs.YtkeoflnmbcdmfaaGreatDoor
open Go.ChangeShapes Go.WideShapes Go.ChangeAt Go.RowKit
theorem rv_facts {k v s:Int} {xs:List Int} {n:Nat} (hl:xs.length=n) (h:rv k xs v s=true):(2<=s/\s<=4)/\(1<=n/\n<=4)/\(k=1\/k=2\/k=3\/2<=n)/\∀ i,i<n->0<=nth xs i/\nth xs i<=s*s-1:=by
 simp only [rv,Bool.and_eq_true,decide_eq_true_eq,List.all_eq_true,List.mem_range] at h;obtain ⟨⟨⟨h1,h2⟩,h3⟩,h4⟩:=h;rw [hl] at h2 h3 h4;have hs:=inr_t h1;refine ⟨hs,?_,?_,fun i hi=>?_⟩
 ·refine ⟨?_,h2⟩;unfold kindOk at h4
  split at h4
  ·simp only [Bool.and_eq_true,decide_eq_true_eq] at h4;omega
  ·split at h4
   ·simp only [Bool.and_eq_true,decide_eq_true_eq] at h4;omega
   ·split at h4
    ·simp only [Bool.and_eq_true,decide_eq_true_eq] at h4;omega
    ·split at h4
     ·simp only [Bool.and_eq_true,decide_eq_true_eq] at h4;omega
     ·split at h4
      ·simp only [Bool.and_eq_true,decide_eq_true_eq] at h4;omega
      ·cases h4
 ·unfold kindOk at h4
  split at h4
  ·exact .inl (by assumption)
  ·split at h4
   ·exact .inr (.inl (by assumption))
   ·split at h4
    ·exact .inr (.inr (.inl (by assumption)))
    ·split at h4
     ·simp only [Bool.and_eq_true,decide_eq_true_eq] at h4;omega
     ·split at h4
      ·simp only [Bool.and_eq_true,decide_eq_true_eq] at h4;omega
      ·cases h4
 ·have:=h3 i hi;simp only [cellOk,Bool.and_eq_true] at this;exact inr_t this.1
theorem mvd_b64' {xs:List Int} {size:Int} (h:mvd xs size=true):B64 xs:=b64_of rfl fun k hk=>by
 have:=(mvd_at h).2.2.2 k hk;omega
def zerosN (n:Nat):List Nat:=List.replicate n 0
theorem nats_zeros (n:Nat):nats (zerosN n)=part [] 0 n:=by
 apply ext_nth (by rw [nats_length,part_length];simp [zerosN])
 intro k hk;rw [nats_length] at hk
 have hk':k<n:=by simpa [zerosN] using hk
 rw [nats_nth,part_nth _ _ _ _ hk',if_neg (by omega)]
 simp [zerosN,List.getD_eq_getElem?_getD,hk']
theorem zeros_lt (n:Nat):lt32 (zerosN n):=fun i=>by
 by_cases h:i<n
 ·simp [zerosN,List.getD_eq_getElem?_getD,h]
 ·simp [zerosN,List.getD_eq_getElem?_getD,List.getElem?_eq_none (by simp;omega:(List.replicate n 0).length<=i)]
theorem Rd.ne {w:World} {B:Nat} {A:Option Addr} {n:Nat} {xs:List Int} (h:Rd w B A n xs) (hn:0<n) {G:Nat} (hG:B<=G):∀ b off,A=some ⟨b,off,none⟩->b≠G:=fun b off e=>by
 obtain ⟨b',off',e',hlt,_⟩:=h.at_ hn;rw [e] at e';cases e';omega
def rmN (k:Int) (xs:List Int) (v:Int) (ms:List Int):List Nat:=waysF k v xs ms xs.length [] (zerosN xs.length)
def rmL (k:Int) (xs:List Int) (v:Int) (ms:List Int) (s:Int):List Int:=if (rv k xs v s&&mvd ms s)=true then nats (rmN k xs v ms) else []
theorem rmN_inv (k:Int) (xs:List Int) (v:Int) (ms:List Int):(rmN k xs v ms).length=xs.length/\lt32 (rmN k xs v ms):=
 waysF_inv k v xs ms xs.length xs.length [] (zerosN xs.length) (by simp) (fun i hi=>absurd hi (by simp)) (by simp [zerosN]) (zeros_lt _)
set_option maxHeartbeats 1000000 in
theorem specRuleMasks (A:Option Addr) (c n B:Nat) (xs:List Int) (k v size:Int) (Am:Option Addr) (cm nm Bm:Nat) (ms:List Int) (w:World) (h:Rd w B A n xs) (hB:B<=w.heap.size) (hm:n<=1099511627776) (hr:Rd w Bm Am nm ms) (hBm:Bm<=w.heap.size) (hmm:nm<=1099511627776) (hs64: -9223372036854775808<=size/\size<=9223372036854775807):
 Calls Tryz.prog 173 #[.agg #[.int .i64 k,.slice A n c,.int .i64 v],.slice Am nm cm,.int .i64 size] w (RetSl w (rmL k xs v ms size)):=by
 have hlen:=Lib.hid h.1;have hlenm:=Lib.hid hr.1;have hx0:=rbox_new w k A n c v 88;have hb0:Below w.heap.size w (w.alloc (.cells #[.int .i64 k,.slice A n c,.int .i64 v] 88)):=(Below.refl _ _).alloc (Nat.le_refl _) _
 have hsz0:w.heap.size<(w.alloc (.cells #[.int .i64 k,.slice A n c,.int .i64 v] 88)).heap.size:=by simp
 have HV:Hid (∀ w',Below w.heap.size w w'->Calls Tryz.prog 71 #[.agg #[.int .i64 k,.slice A n c,.int .i64 v],.int .i64 size] w' fun e w''=>e=.returned (.bool (rv k xs v size))/\Below w'.heap.size w' w''):=
  Lib.hid (fun w' hb=>specRuleValid A c n B xs k v size w' (h.below (hb.mono hB)) (Nat.le_trans hB hb.size) hm)
 have HMV:Hid (∀ w',Below w.heap.size w w'->Calls Tryz.prog 127 #[.slice Am nm cm,.int .i64 size] w' fun e w''=>e=.returned (.bool (mvd ms size))/\Below w'.heap.size w' w''):=
  Lib.hid (fun w' hb=>specMasksValid Am cm nm Bm ms size w' (hr.below (hb.mono hBm)) (Nat.le_trans hBm hb.size) hmm hs64)
 cases hv:rv k xs v size
 ·have HL:=Lib.hid (show rmL k xs v ms size=[] by simp [rmL,hv])
  go_enter Tryz.func173,Tryz.ntmps173
  go_wp2_with (go_at_call 71;refine (HV.out _ hb0).mono ?_;rintro e w1 ⟨rfl,hb1⟩;rw [hv];have hB1:=step hb0 hb1;clear hb1)
  go_ret
  rw [HL.out];exact ⟨_,_,rfl,(Ow.made0 _ _ (Nat.le_refl _)).mono hB1.size,hB1.alloc hB1.size _⟩
 ·cases hmv:mvd ms size
  ·have HL:=Lib.hid (show rmL k xs v ms size=[] by simp [rmL,hmv])
   go_enter Tryz.func173,Tryz.ntmps173
   go_wp2_with (first|(go_at_call 71;refine (HV.out _ hb0).mono ?_;rintro e w1 ⟨rfl,hb1⟩;rw [hv];have hB1:=step hb0 hb1;have hx1:=hx0.below hsz0 hb1;obtain ⟨c0,c1,c2⟩:=hx1;clear hb1)|(go_at_call 127;refine (HMV.out _ hB1).mono ?_;rintro e w2 ⟨rfl,hb2⟩;rw [hmv];have hB2:=step hB1 hb2;clear hb2))
   go_ret
   rw [HL.out];exact ⟨_,_,rfl,(Ow.made0 _ _ (Nat.le_refl _)).mono hB2.size,hB2.alloc hB2.size _⟩
  ·obtain ⟨i0,hi,hz0,hz1,hz2⟩:=info_parts int_info;obtain ⟨⟨s2,s4⟩,⟨n1,n4⟩,hk,hcs⟩:=rv_facts hlen.out hv;obtain ⟨_,hmlen,_,_⟩:=mvd_at hmv;have Hms:=Lib.hid (mvd_b64' hmv);have HL:=Lib.hid (show rmL k xs v ms size=nats (waysF k v xs ms n [] (zerosN n)) by simp [rmL,hv,hmv,rmN,hlen.out])
   have Hxc:Hid (∀ i,i<n->0<=nth xs i/\nth xs i<nm):=Lib.hid (fun i hi2=>by
    have:=hcs i hi2;rw [hlenm.out] at hmlen
    omega)
   have Hinv:=Lib.hid (waysF_inv k v xs ms n n [] (zerosN n) (by simp) (fun i hi=>absurd hi (by simp)) (by simp [zerosN]) (zeros_lt _));have hnm:0<nm:=(by rw [hlenm.out] at hmlen;have:=(sq_bd s2 s4).1;omega);clear hcs hmlen
   go_enter Tryz.func173,Tryz.ntmps173
   go_wp2_with (first
    |(go_at_call 71;refine (HV.out _ hb0).mono ?_;rintro e w1 ⟨rfl,hb1⟩;rw [hv];have hB1:=step hb0 hb1;have hx1:=hx0.below hsz0 hb1;have hsz1:=Nat.lt_of_lt_of_le hsz0 hb1.size;obtain ⟨c0,c1,c2⟩:=id hx1;clear hb1)
    |(go_at_call 127;refine (HMV.out _ hB1).mono ?_;rintro e w2 ⟨rfl,hb2⟩;rw [hmv];have hB2:=step hB1 hb2;have hx2:=hx1.below hsz1 hb2;have hsz2:=Nat.lt_of_lt_of_le hsz1 hb2.size;obtain ⟨d0,d1,d2⟩:=id hx2;clear hb2)
    |(refine wpList_make_full _ rfl (.tmp 21) (.tmp 21) 23 rfl w.heap.size 3 i0 (.int .i64 0) 1 Tryz.underlying23 hi hz0 hz1 .i64 .i64 n n n rfl rfl rfl rfl (by rw [hz2];omega) (by simp only [maxLen];omega) hB2.size ?_;intro w3 hown hgr;have hb3:=made_below hgr (Nat.le_refl _);have hB3:=step hB2 hb3;have hx3:=hx2.below hsz2 hb3;obtain ⟨e0,e1,e2⟩:=id hx3;have ho3:=made_part [] hown;rw [<- nats_zeros] at ho3;obtain ⟨_,hge,hge1,hgl⟩:=ho3.form (by omega);cases hge)
    |(go_at_call 190;refine (specWays k v xs ms A c n B Am cm nm Bm hk n4 Hxc Hms w.heap.size _ n ?hA ?hM n _ 0 _ 0 [] (zerosN n) _ (by omega) (h.below ((hB3.alloc hB3.size _).mono hB)) (Nat.le_trans hB (hB3.alloc hB3.size _).size) (hr.below ((hB3.alloc hB3.size _).mono hBm)) (Nat.le_trans hBm (hB3.alloc hB3.size _).size) ⟨rfl,fun h0=>absurd h0 (by omega)⟩ (Nat.zero_le _) ?hne (Lib.hid (fun i hi=>absurd hi (by omega))) (World.ownsRow.alloc ho3 _) (by simp [zerosN]) (Lib.hid (zeros_lt _)) (by rw [World.size_alloc];omega)).mono ?_;(case hA=>exact h.ne (by omega) (Nat.le_trans hB hge1));(case hM=>exact hr.ne hnm (Nat.le_trans hBm hge1));(case hne=>intro b off e;cases e;omega);rintro e w5 ⟨rfl,ho5,hg5⟩))
   go_ret
   rw [HL.out];exact retSl_mk ho5 ((hB3.alloc hB3.size _).grown hg5 (hB3.alloc hB3.size _).size (fun g hg=>by cases hg;exact hge1))
end Go.Proofs.YtkeoflnmbcdmfaaGreatDoor
