import Derived.Test.YtkeoflnmbcdmfaaGreatDoorQ4I
set_option maxRecDepth 8000
namespace Go.Proofs.YtkeoflnmbcdmfaaGreatDoor
open Go.ChangeShapes Go.WideShapes Go.ChangeAt Go.RowKit
def shp (k v:Int) (n:Nat) (s:Int):Bool:=decide (n<=4)&&kindOk k v n s
theorem shp1 (v:Int) (n:Nat) (s:Int):shp 1 v n s=(decide ((2:Int)<=n)&&decide ((n:Int)<=4)&&(v==0)):=by
 unfold shp kindOk;rw [if_pos rfl,show decide ((2:Int)<=n)=decide (2<=n) by (congr 1;apply propext;omega),show decide ((n:Int)<=4)=decide (n<=4) by (congr 1;apply propext;omega)]
 cases decide (n<=4)<;>cases decide (2<=n)<;>simp
theorem shp2 (k v:Int) (n:Nat) (s:Int) (hk:k=2\/k=3):shp k v n s=(decide ((1:Int)<=n)&&decide ((n:Int)<=4)&&decide (1<=v)&&decide (v<=s*s*s*s)):=by
 have e:kindOk k v n s=(decide (1<=n)&&inr v 1 (s*s*s*s)):=by
  rcases hk with rfl|rfl<;>rfl
 unfold shp;rw [e,show decide ((1:Int)<=n)=decide (1<=n) by (congr 1;apply propext;omega),show decide ((n:Int)<=4)=decide (n<=4) by (congr 1;apply propext;omega)];unfold inr;rw [Bool.decide_and]
 cases decide (n<=4)<;>cases decide (1<=n)<;>simp
theorem shp4 (v:Int) (n:Nat) (s:Int):shp 4 v n s=(((n:Int)==2)&&(v==0)):=by
 unfold shp kindOk;rw [if_neg (by omega),if_neg (by omega),if_neg (by omega),if_pos rfl]
 by_cases h:n=2
 ·subst h;rfl
 ·have e:((n:Int)==2)=false:=by simp only [beq_eq_false_iff_ne];omega
  simp [h,e]
theorem shp5 (v:Int) (n:Nat) (s:Int):shp 5 v n s=(((n:Int)==2)&&decide (0<=v)&&decide (v<s)):=by
 unfold shp kindOk;rw [if_neg (by omega),if_neg (by omega),if_neg (by omega),if_neg (by omega),if_pos rfl]
 have e2:inr v 0 (s-1)=(decide (0<=v)&&decide (v<s)):=by
  unfold inr;rw [Bool.decide_and]
  congr 1
  exact decide_eq_decide.2 (by omega)
 by_cases h:n=2
 ·subst h;rw [e2];rfl
 ·have e:((n:Int)==2)=false:=by simp only [beq_eq_false_iff_ne];omega
  simp [h,e]
theorem differentShaped (A:Option Addr) (c n:Nat) (k v s:Int) (_h2s:2<=s) (_h4s:s<=4) (w:World):
 Calls Tryz.prog 221 #[.agg #[.int .i64 k,.slice A n c,.int .i64 v],.int .i64 s] w fun e w'=>e=.returned (.bool (shp 1 v n s))/\Below w.heap.size w w':=by
 have hx0:=rbox_new w k A n c v 183;have hb0:Below w.heap.size w (w.alloc (.cells #[.int .i64 k,.slice A n c,.int .i64 v] 183)):=(Below.refl _ _).alloc (Nat.le_refl _) _;obtain ⟨k0,k1,k2⟩:=hx0;have HL:=Lib.hid (shp1 v n s)
 cases h2:decide ((2:Int)<=n)<;>cases h4:decide ((n:Int)<=4)<;>cases hv:(v==0)
 all_goals
  have H0:=HL.out;rw [h2,h4,hv] at H0;have H:=Lib.hid H0;clear HL H0;simp only [decide_eq_false_iff_not,decide_eq_true_eq] at h2 h4
 all_goals try omega
 all_goals
  go_enter Tryz.func221,Tryz.ntmps221
  go_wp2
  go_ret
  exact ⟨by rw [H.out];rfl,hb0⟩
theorem lessShaped (A:Option Addr) (c n:Nat) (k v s:Int) (_h2s:2<=s) (_h4s:s<=4) (w:World):
 Calls Tryz.prog 228 #[.agg #[.int .i64 k,.slice A n c,.int .i64 v],.int .i64 s] w fun e w'=>e=.returned (.bool (shp 4 v n s))/\Below w.heap.size w w':=by
 have hx0:=rbox_new w k A n c v 186;have hb0:Below w.heap.size w (w.alloc (.cells #[.int .i64 k,.slice A n c,.int .i64 v] 186)):=(Below.refl _ _).alloc (Nat.le_refl _) _;obtain ⟨k0,k1,k2⟩:=hx0;have HL:=Lib.hid (shp4 v n s)
 cases h2:((n:Int)==2)<;>cases hv:(v==0)
 all_goals
  have H0:=HL.out;rw [h2,hv] at H0;have H:=Lib.hid H0;clear HL H0
  go_enter Tryz.func228,Tryz.ntmps228
  go_wp2
  go_ret
  exact ⟨by rw [H.out];rfl,hb0⟩
theorem apartShaped (A:Option Addr) (c n:Nat) (k v s:Int) (_h2s:2<=s) (_h4s:s<=4) (w:World):
 Calls Tryz.prog 230 #[.agg #[.int .i64 k,.slice A n c,.int .i64 v],.int .i64 s] w fun e w'=>e=.returned (.bool (shp 5 v n s))/\Below w.heap.size w w':=by
 have hx0:=rbox_new w k A n c v 187;have hb0:Below w.heap.size w (w.alloc (.cells #[.int .i64 k,.slice A n c,.int .i64 v] 187)):=(Below.refl _ _).alloc (Nat.le_refl _) _;obtain ⟨k0,k1,k2⟩:=hx0;have HL:=Lib.hid (shp5 v n s)
 cases h2:((n:Int)==2)<;>cases h4:decide (0<=v)<;>cases hv:decide (v<s)
 all_goals
  have H0:=HL.out;rw [h2,h4,hv] at H0;have H:=Lib.hid H0;clear HL H0;simp only [decide_eq_false_iff_not,decide_eq_true_eq] at h4 hv
 all_goals try omega
 all_goals
  go_enter Tryz.func230,Tryz.ntmps230
  go_wp2
  go_ret
  exact ⟨by rw [H.out];rfl,hb0⟩
theorem totalShaped_any (k:Int) (n:Nat) (v s:Int) (hk:k=2\/k=3) (h2s:2<=s) (h4s:s<=4) (w:World):
 Calls Tryz.prog 224 #[.int .i64 n,.int .i64 v,.int .i64 s] w fun e w'=>e=.returned (.bool (shp k v n s))/\w=w':=by
 obtain ⟨p1,p2,p3,_,_⟩:=pow4_wrap h2s h4s;have HL:=Lib.hid (shp2 k v n s hk)
 cases h2:decide ((1:Int)<=n)<;>cases h4:decide ((n:Int)<=4)<;>cases hv:decide (1<=v)<;>cases hw:decide (v<=s*s*s*s)
 all_goals
  have H0:=HL.out;rw [h2,h4,hv,hw] at H0;have H:=Lib.hid H0;clear HL H0;simp only [decide_eq_false_iff_not,decide_eq_true_eq] at h2 h4 hv hw
  go_enter Tryz.func224,Tryz.ntmps224
  go_wp2
  go_ret
  exact ⟨by rw [H.out];rfl,rfl⟩
theorem sumShaped (A:Option Addr) (c n:Nat) (k v s:Int) (h2s:2<=s) (h4s:s<=4) (w:World):
 Calls Tryz.prog 223 #[.agg #[.int .i64 k,.slice A n c,.int .i64 v],.int .i64 s] w fun e w'=>e=.returned (.bool (shp 2 v n s))/\Below w.heap.size w w':=by
 have hx0:=rbox_new w k A n c v 184;have hb0:Below w.heap.size w (w.alloc (.cells #[.int .i64 k,.slice A n c,.int .i64 v] 184)):=(Below.refl _ _).alloc (Nat.le_refl _) _;obtain ⟨k0,k1,k2⟩:=hx0
 go_enter Tryz.func223,Tryz.ntmps223
 go_wp2_with (go_at_call 224;refine (totalShaped_any 2 _ _ _ (.inl rfl) h2s h4s _).mono ?_;rintro e w' ⟨rfl,rfl⟩)
 go_ret
 exact ⟨rfl,hb0⟩
theorem productShaped (A:Option Addr) (c n:Nat) (k v s:Int) (h2s:2<=s) (h4s:s<=4) (w:World):
 Calls Tryz.prog 226 #[.agg #[.int .i64 k,.slice A n c,.int .i64 v],.int .i64 s] w fun e w'=>e=.returned (.bool (shp 3 v n s))/\Below w.heap.size w w':=by
 have hx0:=rbox_new w k A n c v 185;have hb0:Below w.heap.size w (w.alloc (.cells #[.int .i64 k,.slice A n c,.int .i64 v] 185)):=(Below.refl _ _).alloc (Nat.le_refl _) _;obtain ⟨k0,k1,k2⟩:=hx0
 go_enter Tryz.func226,Tryz.ntmps226
 go_wp2_with (go_at_call 224;refine (totalShaped_any 3 _ _ _ (.inr rfl) h2s h4s _).mono ?_;rintro e w' ⟨rfl,rfl⟩)
 go_ret
 exact ⟨rfl,hb0⟩
theorem fresh_mem (xs:List Int) (k:Nat):freshB xs k= !(memTo xs (nth xs k) k):=by
 have key:∀ m,((List.range m).all fun j=>nth xs j != nth xs k)= !(memTo xs (nth xs k) m):=by
  intro m
  induction m with
  |zero=>rfl
  |succ m ih=>rw [List.range_succ,List.all_append,ih];simp only [memTo,Bool.not_or,List.all_cons,List.all_nil,Bool.and_true];rfl
 exact key k
theorem cellsDiffer_any (A:Option Addr) (c n B:Nat) (xs:List Int) (s:Int) (h2s:2<=s) (h4s:s<=4) (w:World) (h:Rd w B A n xs) (hm:n<=1099511627776) (hcap:n<=c):
 Calls Tryz.prog 176 #[.slice A n c,.int .i64 s] w fun e w'=>e=.returned (.bool ((List.range n).all (cellOk (s*s-1) xs)))/\w=w':=by
 obtain ⟨p1,_,_,_,_⟩:=pow4_wrap h2s h4s
 go_enter Tryz.func176,Tryz.ntmps176
 go_wp2
 go_loop [9] (fun i=>∃ u:Nat,u<=n/\i=.int .i64 u/\(List.range u).all (cellOk (s*s-1) xs)=true) (fun i=>n-(intOf i).toNat)
 case atStart=>exact ⟨0,Nat.zero_le _,rfl,rfl⟩
 case round=>
  obtain ⟨u,hu,rfl,hd⟩:=hrel
  by_cases hlt:u<n
  ·obtain ⟨b,off,rfl,hbB,hck⟩:=h.at_ hlt;have ht:=h.take hu;have hmem:memTo (xs.take u) (nth xs u) u=memTo xs (nth xs u) u:=memTo_congr (fun i hi=>nth_take hi)
   have hC:Hid (∀ cc,Calls Tryz.prog 66 #[.slice (some ⟨b,off,none⟩) u cc,.int .i64 (nth xs u)] w fun e w'=>e=.returned (.bool (memTo xs (nth xs u) u))/\w=w'):=
    Lib.hid (fun cc=>by rw [<- hmem];exact contains_any _ _ _ _ _ _ _ ht (by omega))
   have Hst:=Lib.hid (show (List.range (u+1)).all (cellOk (s*s-1) xs)=cellOk (s*s-1) xs u by rw [List.range_succ,List.all_append,hd];simp)
   have Hf:Hid (cellOk (s*s-1) xs u=false->(List.range n).all (cellOk (s*s-1) xs)=false):=Lib.hid (fun e=>by
    cases hh:(List.range n).all (cellOk (s*s-1) xs)
    ·rfl
    ·rw [List.all_eq_true.1 hh u (List.mem_range.2 hlt)] at e;cases e)
   have Hc:=Lib.hid (show cellOk (s*s-1) xs u=(inr (nth xs u) 0 (s*s-1)&& !(memTo xs (nth xs u) u)) by unfold cellOk;rw [fresh_mem]);clear hmem ht hd;have hu2:u<=c:=(by omega)
   by_cases l0:nth xs u<0
   ·have H:=Lib.hid (Hf.out (by rw [Hc.out,show inr (nth xs u) 0 (s*s-1)=false by (unfold inr;rw [decide_eq_false_iff_not];omega)];rfl))
    go_wp2
    go_ret
    exact ⟨by rw [H.out];rfl,rfl⟩
   ·by_cases l1:s*s<=nth xs u
    ·have H:=Lib.hid (Hf.out (by rw [Hc.out,show inr (nth xs u) 0 (s*s-1)=false by (unfold inr;rw [decide_eq_false_iff_not];omega)];rfl))
     go_wp2
     go_ret
     exact ⟨by rw [H.out];rfl,rfl⟩
    ·have Hi:=Lib.hid (show inr (nth xs u) 0 (s*s-1)=true by unfold inr;rw [decide_eq_true_eq];omega);cases hm:memTo xs (nth xs u) u
     ·have H:=Lib.hid (show (List.range (u+1)).all (cellOk (s*s-1) xs)=true by rw [Hst.out,Hc.out,Hi.out,hm];rfl)
      go_wp2_with (go_at_call 66;refine (hC.out _).mono ?_;rintro e w' ⟨rfl,rfl⟩;rw [hm])
      go_round
      case rel=>exact ⟨u+1,by omega,by go_num,H.out⟩
      case measure=>simp [intOf];omega
     ·have H:=Lib.hid (Hf.out (by rw [Hc.out,hm,Bool.not_true,Bool.and_false]))
      go_wp2_with (go_at_call 66;refine (hC.out _).mono ?_;rintro e w' ⟨rfl,rfl⟩;rw [hm])
      go_ret
      exact ⟨by rw [H.out];rfl,rfl⟩
  ·obtain rfl:u=n:=by omega
   have Hd:=Lib.hid hd;clear hd
   go_wp2
   go_ret
   exact ⟨by rw [Hd.out];rfl,rfl⟩
end Go.Proofs.YtkeoflnmbcdmfaaGreatDoor
