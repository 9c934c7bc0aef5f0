import Derived.Test.YtkeoflnmbcdmfaaGreatDoorGrown
import Derived.Test.YtkeoflnmbcdmfaaGreatDoorR4M
import Derived.Test.YtkeoflnmbcdmfaaGreatDoorDrawH
import Derived.Test.YtkeoflnmbcdmfaaGreatDoorQ4S
import Derived.Test.YtkeoflnmbcdmfaaGreatDoorOwn
import Derived.Test.YtkeoflnmbcdmfaaGreatDoorL43
import Derived.Deep.CutRange
import Derived.Deep.LoopGhost
import Derived.Deep.CutBlock
import Derived.StillTailTactics
import Derived.Deep.RegionHeld3
import Derived.Deep.RegionWith
set_option maxRecDepth 8000
namespace Go.Proofs.YtkeoflnmbcdmfaaGreatDoor
open Go.ChangeShapes Go.WideShapes Go.ChangeAt Go.RowKit
theorem Ow.made1 (w:World) (x:Int) {lo:Nat} (h:lo<=w.heap.size):Ow (w.alloc (.cells #[.int .i64 x] 3)) lo (some ⟨w.heap.size,0,none⟩) 1 1 [x]:=
 ⟨rfl,.inr ⟨w.heap.size,1,#[.int .i64 x],rfl,h,heap_alloc_new w _,Nat.le_refl _,by simp only [maxLen];omega,rfl,rfl⟩⟩
theorem Ow.made2 (w:World) (x y:Int) {lo:Nat} (h:lo<=w.heap.size):Ow (w.alloc (.cells #[.int .i64 x,.int .i64 y] 3)) lo (some ⟨w.heap.size,0,none⟩) 2 2 [x,y]:=
 ⟨rfl,.inr ⟨w.heap.size,2,#[.int .i64 x,.int .i64 y],rfl,h,heap_alloc_new w _,Nat.le_refl _,by simp only [maxLen];omega,rfl,rfl⟩⟩
def cellsOk (cs:List Int) (s:Int) (m:Nat):Prop:=∀ i,i<m->cellOk (s*s-1) cs i=true
theorem cellsOk_one {x s:Int} (h0:0<=x) (h1:x<s*s):cellsOk [x] s 1:=fun i hi=>by
 obtain rfl:i=0:=by omega
 have:inr x 0 (s*s-1)=true:=by simp [inr];omega
 show (inr x 0 (s*s-1)&&freshB [x] 0)=true
 rw [this];rfl
theorem cellsOk_push {cs:List Int} {y s:Int} {n:Nat} (hl:cs.length=n) (h:cellsOk cs s n) (hb:(inr y 0 (s*s-1)&& !(memTo cs y n))=true):cellsOk (cs++[y]) s (n+1):=by
 rw [Bool.and_eq_true] at hb;intro i hi;unfold cellOk;rw [fresh_mem,nth_push hl]
 by_cases h':i<n
 ·have:=h i h';unfold cellOk at this;rw [fresh_mem] at this;rw [if_pos h',memTo_congr (ys:=cs) (fun j hj=>by rw [nth_push hl,if_pos (by omega)])];exact this
 ·obtain rfl:i=n:=by omega
  rw [if_neg (by omega),if_pos rfl,memTo_congr (ys:=cs) (fun j hj=>by rw [nth_push hl,if_pos (by omega)]),hb.1];exact hb.2
theorem Rdr.belowN {w w':World} {B G P N:Nat} (h:Rdr w B G P) (hb:Below N w w') (hG:G<N) (hB:B<=N):Rdr w' B G P:=by
 obtain ⟨A,n,c,p,bs,hg,p0,p1,hn,hr⟩:=h;exact ⟨A,n,c,p,bs,(hb.block G hG).trans hg,p0,p1,hn,hr.below (hb.mono hB)⟩
theorem grown_low {w w1 w2:World} {G:Nat} (h:w.grownBy w1 (some G)) (hb:Below w.heap.size w1 w2):w.grownBy w2 (some G):=
 ⟨hb.os.trans h.os,hb.tape.trans h.tape,hb.output.trans h.output,Nat.le_trans h.size hb.size,fun k hk hne=>(hb.block k hk).trans (h.block k hk hne)⟩
def prodM (vs:List Int):Nat->Nat
 |0=>1
 |k+1=>prodM vs k*max 1 (nth vs k).toNat
theorem prodM_le {vs:List Int} {n:Nat} (h:small4 vs n):∀ k,k<=n->1<=prodM vs k/\prodM vs k<=4^k:=by
 intro k
 induction k with
 |zero=>intro _;simp [prodM]
 |succ k ih=>
  intro hk;have h1:=h k (by omega);obtain ⟨h2,h3⟩:=ih (by omega);simp only [prodM];rw [Nat.pow_succ];exact ⟨Nat.mul_pos (by omega) (by omega),Nat.mul_le_mul h3 (by omega)⟩
def smallS (vs:List Int) (n s:Nat):Prop:=∀ i,i<n->0<=nth vs i/\nth vs i<=s
theorem sumS_le {vs:List Int} {n s:Nat} (h:smallS vs n s):∀ k,k<=n->sumN vs k<=s*k:=by
 intro k
 induction k with
 |zero=>intro _;simp [sumN]
 |succ k ih=>
  intro hk;have:=h k (by omega);have:=ih (by omega);simp only [sumN,Nat.mul_succ];omega
theorem prodS_le {vs:List Int} {n s:Nat} (hs:1<=s) (h:smallS vs n s):∀ k,k<=n->1<=prodM vs k/\prodM vs k<=s^k:=by
 intro k
 induction k with
 |zero=>intro _;simp [prodM]
 |succ k ih=>
  intro hk;have h1:=h k (by omega);obtain ⟨h2,h3⟩:=ih (by omega);simp only [prodM];rw [Nat.pow_succ];exact ⟨Nat.mul_pos (by omega) (by omega),Nat.mul_le_mul h3 (by omega)⟩
theorem rv_mk {k v:Int} {xs:List Int} {n s:Nat} (hl:xs.length=n) (h2:2<=s) (h4:s<=4) (hn:n<=4) (hc:cellsOk xs s n) (hk:kindOk k v n s=true):rv k xs v s=true:=by
 subst hl;unfold rv;rw [show inr (s:Int) 2 4=true by (simp [inr];omega),decide_eq_true hn,hk,show (List.range xs.length).all (cellOk ((s:Int)*s-1) xs)=true from List.all_eq_true.2 (fun i hi=>hc i (List.mem_range.1 hi))];rfl
theorem kinds_ok {s n a b:Nat} (h2:2<=s) (h4:s<=4) (hn1:1<=n) (hn4:n<=4) (ha:a<=s*n) (hb:1<=b) (hb':b<=s^n):
 (∀ v:Int,v=max 1 (a:Int)->kindOk 2 v n s=true)/\kindOk 3 b n s=true:=by
 have hs:s=2\/s=3\/s=4:=by omega
 have hp:s^n<=s^4:=Nat.pow_le_pow_right (by omega) hn4;have hq:s*n<=s*4:=Nat.mul_le_mul_left _ hn4
 constructor
 ·rintro v rfl
  have:inr (max 1 (a:Int)) 1 ((s:Int)*s*s*s)=true:=by
   unfold inr;rw [decide_eq_true_eq]
   rcases hs with rfl|rfl|rfl<;>constructor<;>omega
  show (decide (1<=n)&&inr (max 1 (a:Int)) 1 ((s:Int)*s*s*s))=true
  rw [this,decide_eq_true hn1];rfl
 ·have:inr (b:Int) 1 ((s:Int)*s*s*s)=true:=by
   unfold inr;rw [decide_eq_true_eq]
   rcases hs with rfl|rfl|rfl<;>constructor<;>omega
  show (decide (1<=n)&&inr (b:Int) 1 ((s:Int)*s*s*s))=true
  rw [this,decide_eq_true hn1];rfl
theorem tblD (s:Int) (v:Nat) (hv:v<4) (h2:2<=s) (h4:s<=4):∃ d:Int,-4<=d/\d<=4/\(#[.int .i64 1,.int .i64 (-1),.int .i64 s,.int .i64 (-s)]:Array Value)[v]? =some (.int .i64 d)/\([.int .i64 1,.int .i64 (-1),.int .i64 s,.int .i64 (-s)]:List Value)[v]? =some (.int .i64 d):=by
 have:v=0\/v=1\/v=2\/v=3:=by omega
 rcases this with rfl|rfl|rfl|rfl
 ·exact ⟨1,by omega,by omega,rfl,rfl⟩
 ·exact ⟨-1,by omega,by omega,rfl,rfl⟩
 ·exact ⟨s,by omega,by omega,rfl,rfl⟩
 ·exact ⟨-s,by omega,by omega,rfl,rfl⟩
section
variable {w w' : World} {lo G n c : Nat} {A : Option Addr} {xs : List Int} {o : Obj}
theorem own_p0 (h:Ow w lo A n c xs) (hG:G<lo) (hg:w.drew.grownBy w' (some G)):Ow w' lo A n c xs/\w.grownBy w' (some G):=
 ⟨Ow.keptG (w:=w) h ⟨hg.os,hg.tape,hg.output,hg.size,hg.block⟩ hG,⟨hg.os,hg.tape,hg.output,hg.size,hg.block⟩⟩
theorem own_p1 (h:Ow w lo A n c xs) (hG:G<lo) (hg:(w.alloc o).drew.grownBy w' (some G)):Ow w' lo A n c xs/\w.grownBy w' (some G):=by
 have hg':(w.alloc o).grownBy w' (some G):=⟨hg.os,hg.tape,hg.output,hg.size,hg.block⟩;exact ⟨(h.below ((Below.refl _ _).alloc (Nat.le_refl _) o)).keptG hg' hG,grown_of_alloc hg'⟩
theorem own_q0 (h:Ow w lo A n c xs) (hG:G<lo) (hg:w.grownBy w' (some G)):Ow w' lo A n c xs/\w.grownBy w' (some G):=⟨h.keptG hg hG,hg⟩
theorem own_q1 (h:Ow w lo A n c xs) (hG:G<lo) (hg:(w.alloc o).grownBy w' (some G)):Ow w' lo A n c xs/\w.grownBy w' (some G):=
 ⟨(h.below ((Below.refl _ _).alloc (Nat.le_refl _) o)).keptG hg hG,grown_of_alloc hg⟩
end
theorem ow_cell {w:World} {lo g n c k:Nat} {xs:List Int} (h:Ow w lo (some ⟨g,0,none⟩) n c xs) (hk:k<n):w.cell? ⟨g,k,none⟩=some (.int .i64 (nth xs k)):=by
 obtain ⟨b,off,e,_,hc⟩:=h.rd.at_ hk;cases e;rw [Nat.zero_add] at hc;exact hc
def DrewRule (w:World) (B G P:Nat) (size m:Int) (e:Ending) (w':World):Prop:=
 ∃ k A n c v xs,e=.returned (.agg #[.int .i64 k,.slice A n c,.int .i64 v])/\Ow w' w.heap.size A n c xs/\n<=5/\(m<1->rv k xs v size=true)/\Rdr w' B G P/\w.grownBy w' (some G)
def SwRel (w:World) (B G P X s:Nat) (wx:World):Prop:=
 ∃ (k:Int) (A:Option Addr) (n c:Nat) (v:Int) (xs:List Int),wx.heap[X]? =some (.cells #[.int .i64 k,.slice A n c,.int .i64 v] 88)/\(Ow wx w.heap.size A n c xs/\∀ b,(Value.slice A n c).ownBlock=some b->b≠X)/\1<=n/\n<=4/\rv k xs v s=true/\Rdr wx B G (P+40)/\w.grownBy wx (some G)
theorem sw_set {w wy:World} {B G P X s:Nat} {k v:Int} {A:Option Addr} {n c:Nat} {xs:List Int} {old:Array Value} (hG0:G<w.heap.size) (hBw:B<=w.heap.size) (hrow:wy.heap[X]? =some (.cells old 88)) (hX:w.heap.size<=X) (ho:Ow wy w.heap.size A n c xs) (hne:∀ b,(Value.slice A n c).ownBlock=some b->b≠X) (hn1:1<=n) (hn4:n<=4) (hv:rv k xs v s=true) (hr:Rdr wy B G (P+40)) (hg:w.grownBy wy (some G)):
 SwRel w B G P X s (wy.setRow X #[.int .i64 k,.slice A n c,.int .i64 v]):=
 ⟨k,A,n,c,v,xs,setRow_heap _ _ _ _ _ _ hrow,⟨ho.row5 hne,hne⟩,hn1,hn4,hv,hr.belowN (setRow_below5 (Below.refl _ _) hX) hG0 hBw,grown_low hg (setRow_below5 (Below.refl _ _) hX)⟩
theorem sw_cell {w wy:World} {B G P X s:Nat} {k v:Int} {A A0:Option Addr} {n c n0 c0:Nat} {xs:List Int} (hG0:G<w.heap.size) (hBw:B<=w.heap.size) (hrow:wy.heap[X]? =some (.cells #[.int .i64 k,.slice A0 n0 c0,.int .i64 v] 88)) (hX:w.heap.size<=X) (ho:Ow wy w.heap.size A n c xs) (hne:∀ b,(Value.slice A n c).ownBlock=some b->b≠X) (hn1:1<=n) (hn4:n<=4) (hv:rv k xs v s=true) (hr:Rdr wy B G (P+40)) (hg:w.grownBy wy (some G)):
 SwRel w B G P X s (wy.setCell ⟨X,1,none⟩ (.slice A n c)):=
 ⟨k,A,n,c,v,xs,heap_setCell_same wy X 1 _ _ (.slice A n c) hrow,⟨ho.far (row:=some X) grown_set (fun b hb e=>hne b hb (by injection e with e;omega)),hne⟩,hn1,hn4,hv,hr.belowN ((Below.refl _ _).setCell hX _) hG0 hBw,grown_low hg ((Below.refl _ _).setCell hX _)⟩
theorem sw_drewN {w wx:World} {B G P X s:Nat} (h:SwRel w B G P X s wx) (q:Nat):SwRel w B G P X s (wx.drewN q):=by
 obtain ⟨k,A,n,c,v,xs,h1,h2,h3,h4,h5,h6,h7⟩:=h;exact ⟨k,A,n,c,v,xs,h1,h2,h3,h4,h5,h6,⟨h7.os,h7.tape,h7.output,h7.size,h7.block⟩⟩
theorem Ow.prefix_ {w:World} {lo g n c k:Nat} {xs:List Int} (h:Ow w lo (some ⟨g,0,none⟩) n c xs) (hk:k<=n):Ow w lo (some ⟨g,0,none⟩) k c (xs.take k):=by
 have hl:=h.len
 rcases h with ⟨h0,⟨h1,_⟩|⟨g',cap,cur,hv,h2,h3,h4,h5,h6,h7⟩⟩
 ·cases h1
 ·injection hv with e1 _ e2
  injection e1 with e1
  injection e1 with e1 _ _
  subst e1 e2;refine ⟨by simp [vals];omega,.inr ⟨g,c,cur,rfl,h2,h3,by omega,h5,h6,?_⟩⟩
  have e:cur.toList.take (k*1)=(cur.toList.take (n*1)).take (k*1):=by rw [List.take_take,Nat.min_eq_left (by omega)]
  rw [e,h7,Nat.mul_one]
  simp [vals,List.map_take]
theorem cellsOk_take {cs:List Int} {s:Int} {n k:Nat} (h:cellsOk cs s n) (hk:k<=n):cellsOk (cs.take k) s k:=fun i hi=>by
 have:=h i (by omega);unfold cellOk at this ⊢;rw [fresh_mem] at this ⊢;rw [nth_take hi,memTo_congr (ys:=cs) (fun j hj=>nth_take (by omega))];exact this
theorem cellsOk_two {cs:List Int} {s a b:Int} {n:Nat} (h:cellsOk cs s n) (hn:1<n) (ha:nth cs 0=a) (hb:nth cs 1=b):cellsOk [a,b] s 2/\cellsOk [b,a] s 2:=by
 have h0:=h 0 (by omega);have h1:=h 1 (by omega);simp only [cellOk,fresh_mem,memTo,Bool.and_eq_true,Bool.not_eq_true',Bool.false_or,beq_eq_false_iff_ne,ha,hb] at h0 h1;have hne:¬ a=b:=h1.2
 constructor
 ·intro i hi
  have:i=0\/i=1:=by omega
  rcases this with rfl|rfl
  ·show (inr a 0 (s*s-1)&&freshB [a,b] 0)=true
   rw [h0.1];rfl
  ·show (inr b 0 (s*s-1)&&freshB [a,b] 1)=true
   rw [h1.1,fresh_mem]
   show (true&& !(false||(a==b)))=true
   simp [hne]
 ·intro i hi
  have:i=0\/i=1:=by omega
  rcases this with rfl|rfl
  ·show (inr b 0 (s*s-1)&&freshB [b,a] 0)=true
   rw [h1.1];rfl
  ·show (inr a 0 (s*s-1)&&freshB [b,a] 1)=true
   rw [h0.1,fresh_mem]
   show (true&& !(false||(b==a)))=true
   have:¬ b=a:=fun e=>hne e.symm
   simp [this]
theorem kind4 (s:Int):kindOk 4 0 2 s=true:=by unfold kindOk;simp
theorem kind1 (s:Int):kindOk 1 0 2 s=true:=by unfold kindOk;simp
theorem kind5 {v s:Int} (h0:0<=v) (h1:v<=s-1):kindOk 5 v 2 s=true:=by unfold kindOk;simp [inr,h0,h1]
def FinRel (w:World) (B G P X s:Nat) (m:Int) (wx:World):Prop:=
 ∃ (k:Int) (A:Option Addr) (n c:Nat) (v:Int) (xs:List Int),wx.heap[X]? =some (.cells #[.int .i64 k,.slice A n c,.int .i64 v] 88)/\Ow wx w.heap.size A n c xs/\n<=5/\(m<1->rv k xs v s=true)/\Rdr wx B G (P+60)/\w.grownBy wx (some G)
theorem fin_k {w wy:World} {B G P X s:Nat} {k k' v m:Int} {A:Option Addr} {n c:Nat} {xs:List Int} (hG0:G<w.heap.size) (hBw:B<=w.heap.size) (hrow:wy.heap[X]? =some (.cells #[.int .i64 k,.slice A n c,.int .i64 v] 88)) (hX:w.heap.size<=X) (ho:Ow wy w.heap.size A n c xs) (hne:∀ b,(Value.slice A n c).ownBlock=some b->b≠X) (hn:n<=5) (hm:¬ m<1) (hr:Rdr wy B G (P+60)) (hg:w.grownBy wy (some G)):
 FinRel w B G P X s m (wy.setCell ⟨X,0,none⟩ (.int .i64 k')):=
 ⟨k',A,n,c,v,xs,heap_setCell_same wy X 0 _ _ (.int .i64 k') hrow,ho.far (row:=some X) grown_set (fun b hb e=>hne b hb (by injection e with e;omega)),hn,fun h=>(hm h).elim,hr.belowN ((Below.refl _ _).setCell hX _) hG0 hBw,grown_low hg ((Below.refl _ _).setCell hX _)⟩
theorem fin_v {w wy:World} {B G P X s:Nat} {k v v' m:Int} {A:Option Addr} {n c:Nat} {xs:List Int} (hG0:G<w.heap.size) (hBw:B<=w.heap.size) (hrow:wy.heap[X]? =some (.cells #[.int .i64 k,.slice A n c,.int .i64 v] 88)) (hX:w.heap.size<=X) (ho:Ow wy w.heap.size A n c xs) (hne:∀ b,(Value.slice A n c).ownBlock=some b->b≠X) (hn:n<=5) (hm:¬ m<1) (hr:Rdr wy B G (P+60)) (hg:w.grownBy wy (some G)):
 FinRel w B G P X s m (wy.setCell ⟨X,2,none⟩ (.int .i64 v')):=
 ⟨k,A,n,c,v',xs,heap_setCell_same wy X 2 _ _ (.int .i64 v') hrow,ho.far (row:=some X) grown_set (fun b hb e=>hne b hb (by injection e with e;omega)),hn,fun h=>(hm h).elim,hr.belowN ((Below.refl _ _).setCell hX _) hG0 hBw,grown_low hg ((Below.refl _ _).setCell hX _)⟩
theorem fin_c {w wy:World} {B G P X s:Nat} {k v m:Int} {A A0:Option Addr} {n c n0 c0:Nat} {xs:List Int} (hG0:G<w.heap.size) (hBw:B<=w.heap.size) (hrow:wy.heap[X]? =some (.cells #[.int .i64 k,.slice A0 n0 c0,.int .i64 v] 88)) (hX:w.heap.size<=X) (ho:Ow wy w.heap.size A n c xs) (hne:∀ b,(Value.slice A n c).ownBlock=some b->b≠X) (hn:n<=5) (hm:¬ m<1) (hr:Rdr wy B G (P+60)) (hg:w.grownBy wy (some G)):
 FinRel w B G P X s m (wy.setCell ⟨X,1,none⟩ (.slice A n c)):=
 ⟨k,A,n,c,v,xs,heap_setCell_same wy X 1 _ _ (.slice A n c) hrow,ho.far (row:=some X) grown_set (fun b hb e=>hne b hb (by injection e with e;omega)),hn,fun h=>(hm h).elim,hr.belowN ((Below.refl _ _).setCell hX _) hG0 hBw,grown_low hg ((Below.refl _ _).setCell hX _)⟩
def LRel (w:World) (B G P many:Nat) (size:Int) (gk:Nat) (cv kv:Value) (wr:World):Prop:=
 ∃ (u n:Nat) (A':Option Addr) (c':Nat) (cs:List Int),u<=4*many/\gk=4*many-u/\kv=.int .i64 u/\cv=.slice A' n c'/\1<=n/\n<=many/\Ow wr w.heap.size A' n c' cs/\cellsOk cs size n/\Rdr wr B G (P+2+2*u)/\w.grownBy wr (some G)
set_option maxHeartbeats 40000000 in
theorem l20Rule_any (B G P:Nat) (Ag:Option Addr) (cg ng Bg:Nat) (g:List Int) (size m:Int) (w:World) (h:Rdr w B G P) (hBG:B<=G) (hP:P<=1000) (hg:Rd w Bg Ag ng g) (hBg:Bg<=w.heap.size) (hne:∀ b off,Ag=some ⟨b,off,none⟩->b≠G) (hgv:gv g size=true) (hm:m<=1000000):
 Calls Tryz.prog 107 #[.pointer (some ⟨G,0,none⟩),.slice Ag ng cg,.int .i64 size,.int .i64 m] w (DrewRule w B G (P+100) size m):=by
 have hG0:=h.lt
 have hBw:B<=w.heap.size:=by omega
 have hGw:=h.lt
 have hBw':B<=w.heap.size:=by omega
 obtain ⟨h2s,h4s⟩:=gv_size hgv;obtain ⟨p1,_,_,_,p5⟩:=pow4_wrap h2s h4s;obtain ⟨q4,q16⟩:=sq_bd h2s h4s;have e1:IntKind.i64.wrap (size*size)=size*size:=IntWalk.i64_in _ (by omega);have hr0:=h.alloc hBw (.cells #[.int .i64 0,.slice none 0 0,.int .i64 0] 88);have hg0:w.grownBy (w.alloc (.cells #[.int .i64 0,.slice none 0 0,.int .i64 0] 88)) (some G):=only_alloc (World.grownBy.refl w _) _
 go_enter Tryz.func107,Tryz.ntmps107
 go_wp2_with fail
 obtain ⟨w0,hW⟩:∃ w0,w0=w.alloc (.cells #[.int .i64 0,.slice none 0 0,.int .i64 0] 88):=⟨_,rfl⟩;rw [<- hW] at hr0 hg0 ⊢
 have hb00:Below w.heap.size w w0:=by rw [hW];exact (Below.refl _ _).alloc (Nat.le_refl _) _
 have hR0:w0.heap[w.heap.size]? =some (.cells #[.int .i64 0,.slice none 0 0,.int .i64 0] 88):=by rw [hW];exact heap_alloc_new w _
 have hRw:w.heap.size<w0.heap.size:=by rw [hW];simp
 have hRG:w.heap.size≠G:=by omega
 have hg:=hg.below (hb00.mono hBg);have hBg:=Nat.le_trans hBg hb00.size;have hBw:=Nat.le_trans hBw hb00.size;have hG0:=Nat.lt_trans hG0 hRw;have HW:=Lib.hid hW;clear hW;obtain ⟨R0,hR⟩:∃ R0,R0=w.heap.size:=⟨_,rfl⟩;rw [<- hR] at hR0 hRw hRG hGw hBw' ⊢;have HR:=Lib.hid hR;clear hR;refine (pick_any B G P _ _ hr0 hBG (by omega)).mono ?_;rintro e w1 ⟨x,rfl,⟨x0,x1,_⟩,hr1,hg1⟩;have hx1:=x1 (by omega);clear x1;have hg01:=hg1
 have hB1:B<=w1.heap.size:=by have:=hr1.lt;omega
 have hr2:=hr1.alloc hB1 (.cells #[.int .i64 x] 3);have hg02:=only_alloc hg01 (.cells #[.int .i64 x] 3);have ho2:=Ow.made1 w1 x hg01.size
 go_wp2_with fail
 refine (pick_any B G (P+1) _ _ hr2 hBG (by omega)).mono ?_;rintro e w2 ⟨v,rfl,⟨v0,v1,_⟩,hr3,hg3⟩;have hv1:=v1 (by omega);clear v1;obtain ⟨many,hmany⟩:∃ many:Nat,2+v=many:=⟨(2+v).toNat,by omega⟩
 have hm2:2<=many/\many<=4:=by omega
 have hg03:=hg02.trans hg3;have ho3:=ho2.keptG hg3 hG0;have hc3:cellsOk [x] size 1:=cellsOk_one x0 hx1;have Hm:=Lib.hid hmany;clear hmany
 go_wp2
 go_loopg [9,11] (4*many) (fun gk cv kv wr=>LRel w0 B G P many size gk cv kv wr)
 case atStart=>exact ⟨0,1,_,_,[x],by omega,rfl,rfl,rfl,by omega,by omega,ho3,hc3,hr3.more (by omega),hg03⟩
 case round=>
  obtain ⟨u,n,A',c',cs,hu,hgk,rfl,rfl,hn1,hnm,ho,hc,hr,hgw⟩:=hrel
  go_upto_region 4 with fail
  go_cut [38] from 29 to 85 (fun bv wx=>∃ bb:Bool,bv=.bool bb/\(bb=true->u<4*many/\n<many)/\wr=wx)
  case first=>
   by_cases hu4:(u:Int)<(2+v)*4
   ·by_cases hn4:(n:Int)<2+v
    ·go_wp2
     go_meet
     case rel=>exact ⟨_,rfl,fun _=>⟨by have:=Hm.out;omega,by have:=Hm.out;omega⟩,rfl⟩
    ·go_wp2
     go_meet
     case rel=>exact ⟨_,rfl,fun h=>by first|cases h|(have:=of_decide_eq_true h;have:=Hm.out;omega),rfl⟩
   ·go_wp2
    go_meet
    case rel=>exact ⟨_,rfl,fun h=>by first|cases h|(have:=of_decide_eq_true h;have:=Hm.out;omega),rfl⟩
  case rest=>
   obtain ⟨bb,rfl,hbb,rfl⟩:=hcut;cases bb
   ·clear hbb;have hw0:=hgw.size
    have hcell:∀ i,i<n->0<=nth cs i/\nth cs i<ng:=fun i hi=>by
     have:=hc i hi;simp only [cellOk,Bool.and_eq_true] at this;have h1:=inr_t this.1;have h3:=gv_len hgv;rw [hg.1] at h3;exact ⟨h1.1,by omega⟩
    have Hcell:=Lib.hid hcell;have hgr:=hg.grown hgw hne hBg;have Hgr:=Lib.hid hgr;have Hgv:=Lib.hid (fun i (hi:i<ng)=>gv_nth hgv (show i<g.length by rw [hg.1];exact hi));have hcs:=Lib.hid hc;have hn4:n<=4:=(by omega)
    have hsm:small4 (pks g cs n) n:=fun i hi=>by
     rw [pks_nth hi];obtain ⟨a,b⟩:=hcell i hi;obtain ⟨c2,d2⟩:=Hgv.out (nth cs i).toNat (by omega);exact ⟨c2,by omega⟩
    have Hsm:=Lib.hid hsm;clear hcell hgr hc hsm
    go_wp2
    go_loopg [15,16,17] n (fun gk sv pv jv wx=>∃ q:Nat,q<=n/\gk=n-q/\jv=.int .i64 q/\sv=.int .i64 (sumN (pks g cs n) q:Int)/\pv=.int .i64 (prodM (pks g cs n) q:Int)/\wr=wx)
    case atStart=>exact ⟨0,Nat.zero_le _,rfl,rfl,rfl,rfl,rfl⟩
    case round=>
     obtain ⟨q,hq,hgq,rfl,rfl,rfl,rfl⟩:=hrel
     by_cases hlt:q<n
     ·as_aux_lemma=>
      obtain ⟨gb,rfl,hgb,hgbw⟩:=ho.form (by omega);have hck:=ow_cell ho hlt;obtain ⟨x2,x3⟩:=Hcell.out q hlt;obtain ⟨z,hz⟩:=Int.eq_ofNat_of_zero_le x2;rw [hz] at hck x3;have hzn:z<ng:=(by omega);obtain ⟨bg,og,rfl,hbg,hcg⟩:=Hgr.out.at_ hzn;obtain ⟨y2,y3⟩:=Hgv.out z hzn;obtain ⟨y,hy⟩:=Int.eq_ofNat_of_zero_le y2;rw [hy] at hcg y3;have hpk:nth (pks g cs n) q=(y:Int):=(by rw [pks_nth hlt,hz,Int.toNat_natCast,hy]);have hs1:=sumN_le Hsm.out q hq;have hS:=Lib.hid (show sumN (pks g cs n) (q+1)=sumN (pks g cs n) q+y by simp only [sumN,hpk,Int.toNat_natCast])
      obtain ⟨hp0,hp1⟩:=prodM_le Hsm.out q hq;have hp2:(4:Nat)^q<=4^3:=Nat.pow_le_pow_right (by omega) (by omega);have hyn:y<=4:=(by omega);have hm1:prodM (pks g cs n) q*y<=64*4:=Nat.mul_le_mul (by omega) hyn
      have e9:wrap64 ((prodM (pks g cs n) q:Int)*(y:Int))=((prodM (pks g cs n) q*y:Nat):Int):=by
       rw [<- Int.natCast_mul];exact IntWalk.wrap64_in _ ⟨by omega,by omega⟩
      have e10:wrap64 ((prodM (pks g cs n) q:Nat):Int)=((prodM (pks g cs n) q:Nat):Int):=IntWalk.wrap64_in _ ⟨by omega,by omega⟩;have hqI:(q:Int)<(n:Int):=(by omega);have hznI:(z:Int)<(ng:Int):=(by omega)
      by_cases hy1:1<=y
      ·have hPr:=Lib.hid (show prodM (pks g cs n) (q+1)=prodM (pks g cs n) q*y by simp only [prodM,hpk,Int.toNat_natCast];rw [Nat.max_eq_right hy1]);clear hp1 hp2 hpk hy hz
       go_wp2
       all_goals
        go_roundg (n-(q+1))
        case measure=>omega
        case rel=>exact ⟨q+1,by omega,rfl,by go_num,by rw [hS.out];rfl,by first|(rw [hPr.out];rfl)|(rw [hPr.out,show y=1 by omega,Nat.mul_one]),rfl⟩
      ·have hPr:=Lib.hid (show prodM (pks g cs n) (q+1)=prodM (pks g cs n) q by simp only [prodM,hpk,Int.toNat_natCast];rw [Nat.max_eq_left (by omega),Nat.mul_one])
       obtain rfl:y=0:=by omega
       clear hp1 hp2 hpk hy hz e9 hm1
       go_wp2
       all_goals
        go_roundg (n-(q+1))
        case measure=>omega
        case rel=>exact ⟨q+1,by omega,rfl,by go_num,by rw [hS.out];rfl,by rw [hPr.out];first|rfl|rw [e10],rfl⟩
     ·obtain rfl:q=n:=by omega
      obtain ⟨s,rfl⟩:=Int.eq_ofNat_of_zero_le (show 0<=size by omega)
      have hss:smallS (pks g cs q) q s:=fun i hi=>by
       rw [pks_nth hi];obtain ⟨a,b⟩:=Hcell.out i hi;obtain ⟨c2,d2⟩:=Hgv.out (nth cs i).toNat (by omega);exact ⟨c2,d2⟩
      have hs2:2<=s:=(by omega);have hs4:s<=4:=(by omega);have hsum:=sumS_le hss q (Nat.le_refl _);obtain ⟨hpr0,hpr1⟩:=prodS_le (by omega) hss q (Nat.le_refl _);have Hkv:=Lib.hid (kinds_ok (s:=s) (n:=q) (a:=sumN (pks g cs q) q) (b:=prodM (pks g cs q) q) hs2 hs4 hn1 hn4 hsum hpr0 hpr1);clear hss hsum hpr1
      go_upto_region 21 with fail
      go_cut [18] from 29 (fun xv wx=>∃ s1:Int,xv=.pointer (some ⟨wr.heap.size,0,none⟩)/\kindOk 2 s1 q s=true/\wx=wr.alloc (.cells #[.int .i64 2,.slice A' q c',.int .i64 s1] 88))
      case first=>
       go_wp2
       ·go_meet
        case rel=>exact ⟨_,rfl,Hkv.out.1 _ (by first|omega|exact Int.max_def _ _ ),rfl⟩
       ·go_meet
        case rel=>exact ⟨_,rfl,Hkv.out.1 _ (by omega),rfl⟩
      case rest=>
       obtain ⟨s1,rfl,hk2,rfl⟩:=hcut;have hBr:B<=wr.heap.size:=(by have:=hr.lt;omega);have hGr:=hr.lt
       go_wp2_with fail
       refine (pick_any B G (P+2+2*u) 5 _ (hr.alloc hBr _) hBG (by omega)).mono ?_;rintro e w7 ⟨v7,rfl,⟨c70,c71,_⟩,hr7,hg7⟩;have hv7:=c71 (by omega);clear c71;obtain ⟨ho7,hgr7⟩:=own_q1 ho hG0 hg7;have hrow7:w7.heap[wr.heap.size]? =some (.cells #[.int .i64 2,.slice A' q c',.int .i64 s1] 88):=(hg7.block wr.heap.size (by simp) (by intro e;injection e with e;omega)).trans (heap_alloc_new wr _);have hgw7:=hgw.trans hgr7;have hX7:wr.heap.size<w7.heap.size:=(by have:=hg7.size;rw [World.size_alloc] at this;omega);have hgd7:=Hgr.out.grown hgr7 hne (Nat.le_trans hBg hw0)
       have Hgd:=Lib.hid hgd7;clear hgd7
       have hneX:∀ b,(Value.slice A' q c').ownBlock=some b->b≠wr.heap.size:=fun b hb=>Nat.ne_of_lt (ho.own_hi b hb)
       have Hone:=Lib.hid rule_one;have Hi:=Lib.hid rule_info
       go_upto_block 6 with fail
       go_cut [] from 29 (fun wx=>SwRel w0 B G P wr.heap.size s wx)
       case first=>as_aux_lemma=>
        have hv5:v7=0\/(v7=1\/v7=2\/v7=3)\/v7=4:=(by omega);have Hok:=Lib.hid (rv_mk (k:=2) (v:=s1) ho.len hs2 hs4 hn4 hcs.out hk2)
        rcases hv5 with rfl|hv5|rfl
        ·go_wp2_with (refine wpList_store_row rfl 88 _ _ rfl wr.heap.size #[.int .i64 3,.slice A' q c',.int .i64 (prodM (pks g cs q) q:Int)] rfl rfl 88 #[.int .i64 2,.slice A' q c',.int .i64 s1] hrow7 (Hi.out _ _ _ _ _) rfl (Hone.out _ _ _ _ _) ?_)
         go_meet
         case rel=>exact sw_set hG0 hBw hrow7 hw0 ho7 hneX hn1 hn4 (rv_mk ho.len hs2 hs4 hn4 hcs.out Hkv.out.2) (hr7.more (by omega)) hgw7
        ·by_cases hq2:1<q
         ·have hq2I:(1:Int)<(q:Int):=(by omega);have hq2I':(2:Int)<=(q:Int):=(by omega);obtain ⟨gb,hA,hgb,hgbw⟩:=ho.form (by omega);subst hA;have hl0:0<q:=(by omega);have hl0I:(0:Int)<(q:Int):=(by omega);obtain ⟨x20,x30⟩:=Hcell.out 0 hl0;obtain ⟨x21,x31⟩:=Hcell.out 1 hq2;obtain ⟨z0,hz0⟩:=Int.eq_ofNat_of_zero_le x20;obtain ⟨z1,hz1⟩:=Int.eq_ofNat_of_zero_le x21;have hc0:=ow_cell ho7 hl0;have hc1:=ow_cell ho7 hq2;rw [hz0] at hc0 x30;rw [hz1] at hc1 x31;have hzn0:z0<ng:=(by omega);have hzn1:z1<ng:=(by omega)
          obtain ⟨bg,og,hAg,hbg,hcg0⟩:=Hgd.out.at_ hzn0;subst hAg;obtain ⟨bg',og',e',_,hcg1⟩:=Hgd.out.at_ hzn1;cases e';obtain ⟨y20,y30⟩:=Hgv.out z0 hzn0;obtain ⟨y21,y31⟩:=Hgv.out z1 hzn1;obtain ⟨hok2,hok2'⟩:=cellsOk_two hcs.out hq2 hz0 hz1;have Hok2:=Lib.hid hok2;have Hok2':=Lib.hid hok2';have hqc:2<=c':=(by have:=ho.le_cap;omega);have hpre:=ho7.prefix_ (show 2<=q by omega);have Hpok:=Lib.hid (cellsOk_take hcs.out (show 2<=q by omega));have hplen:(cs.take 2).length=2:=(by rw [List.length_take,ho.len];omega);have hneP:∀ b,(Value.slice (some ⟨gb,0,none⟩) 2 c').ownBlock=some b->b≠wr.heap.size:=hneX
          clear hok2 hok2' hz0 hz1
          rcases hv5 with rfl|rfl|rfl
          ·go_wp2_with fail
           go_still_tail 6,(by kernel_rfl)
           change wpList _ _ _ _ _ w7.drew
           obtain ⟨w9,hw9⟩:∃ w9,w9=w7.drew:=⟨_,rfl⟩;rw [<- hw9];have hrow9:w9.heap[wr.heap.size]? =some (.cells #[.int .i64 2,.slice (some ⟨gb,0,none⟩) q c',.int .i64 s1] 88):=(by rw [hw9];exact hrow7);have hb79:Below w7.heap.size w7 w9:=(by rw [hw9];exact (Below.refl _ _).drew);have hb9a:Below w9.heap.size w9 (w9.alloc (.cells #[.int .i64 z0,.int .i64 z1] 3)):=(Below.refl _ _).alloc (Nat.le_refl _) _;have hb7a:=step hb79 hb9a;have hX9:wr.heap.size<w9.heap.size:=Nat.lt_of_lt_of_le hX7 hb79.size;have hw09:w0.heap.size<=w9.heap.size:=Nat.le_trans hw0 (Nat.le_of_lt hX9)
           have hrow9a:=(hb9a.block wr.heap.size hX9).trans hrow9;have hoA:=Ow.made2 w9 (z0:Int) (z1:Int) hw09
           have hneA:∀ b,(Value.slice (some ⟨w9.heap.size,0,none⟩) 2 2).ownBlock=some b->b≠wr.heap.size:=fun b hb=>by have:w9.heap.size=b:=Option.some.inj hb;omega
           clear hw9
           go_wp2_with (refine wpList_store_row rfl 88 _ _ rfl wr.heap.size #[.int .i64 4,.slice (some ⟨w9.heap.size,0,none⟩) 2 2,.int .i64 0] rfl rfl 88 #[.int .i64 2,.slice (some ⟨gb,0,none⟩) q c',.int .i64 s1] hrow9a (Hi.out _ _ _ _ _) rfl (Hone.out _ _ _ _ _) ?_)
           have hGX:G<w7.heap.size:=Nat.lt_of_lt_of_le hG0 (Nat.le_trans hw0 (Nat.le_of_lt hX7));have hBX:B<=w7.heap.size:=Nat.le_trans hBw (Nat.le_trans hw0 (Nat.le_of_lt hX7));obtain ⟨wA,hwA⟩:∃ wA,wA=(w9.alloc (.cells #[.int .i64 z0,.int .i64 z1] 3)).setRow wr.heap.size #[.int .i64 4,.slice (some ⟨w9.heap.size,0,none⟩) 2 2,.int .i64 0]:=⟨_,rfl⟩;rw [<- hwA];have hbA:Below wr.heap.size w7 wA:=(by rw [hwA];exact setRow_below5 (hb7a.mono (Nat.le_of_lt hX7)) (Nat.le_refl _));have hrowA:wA.heap[wr.heap.size]? =some (.cells #[.int .i64 4,.slice (some ⟨w9.heap.size,0,none⟩) 2 2,.int .i64 0] 88):=(by rw [hwA];exact setRow_heap _ _ _ _ _ _ hrow9a)
           have hoA2:Ow wA w0.heap.size (some ⟨w9.heap.size,0,none⟩) 2 2 [(z0:Int),(z1:Int)]:=(by rw [hwA];exact hoA.row5 hneA);have hrA:Rdr wA B G (P+40):=(hr7.belowN hbA hGr hBr).more (by omega);have hgA:w0.grownBy wA (some G):=grown_low hgw7 (hbA.mono hw0);have hXA:wr.heap.size<wA.heap.size:=(Array.getElem?_eq_some_iff.1 hrowA).1;have hc0A:=(hbA.cell (p:=⟨gb,0,none⟩) hgbw).trans hc0;have hc1A:=(hbA.cell (p:=⟨gb,1,none⟩) hgbw).trans hc1;have hbgr:bg<wr.heap.size:=(by omega);have hcg0A:=(hbA.cell (p:=⟨bg,og+z0,none⟩) hbgr).trans hcg0
           have hcg1A:=(hbA.cell (p:=⟨bg,og+z1,none⟩) hbgr).trans hcg1;have hswA:SwRel w0 B G P wr.heap.size s wA:=⟨4,_,2,_,0,_,hrowA,⟨hoA2,hneA⟩,by omega,by omega,rv_mk (k:=4) (v:=0) (n:=2) rfl hs2 hs4 (by omega) Hok2.out (kind4 s),hrA,hgA⟩;clear hwA hbA;cases hd:decide (nth g z1<nth g z0)
           ·have hd':¬ nth g z1<nth g z0:=of_decide_eq_false hd
            go_quiet (fail)
            go_wp2
            go_meet
            case rel=>exact sw_drewN hswA _
           ·have hd':nth g z1<nth g z0:=of_decide_eq_true hd
            go_quiet (fail)
            go_wp2_with fail
            obtain ⟨wN,hwN⟩:∃ wN,wN=wA.drewN nq:=⟨_,rfl⟩;rw [<- hwN];have hbAN:Below wA.heap.size wA wN:=(by rw [hwN];exact below_drewN (Below.refl _ _) _);have hXgb:gb<wA.heap.size:=Nat.lt_trans hgbw hXA;have hc0N:=(hbAN.cell (p:=⟨gb,0,none⟩) hXgb).trans hc0A;have hc1N:=(hbAN.cell (p:=⟨gb,1,none⟩) hXgb).trans hc1A;clear hwN hc0A hc1A hcg0A hcg1A
            go_still_tail 6,(by kernel_rfl)
            obtain ⟨wB,hwB⟩:∃ wB,wB=wN.drew:=⟨_,rfl⟩
            change wpList _ _ _ _ _ wN.drew
            rw [<- hwB];have hbAB:Below wA.heap.size wA wB:=(by rw [hwB];exact hbAN.drew);have hbBa:Below wB.heap.size wB (wB.alloc (.cells #[.int .i64 z1,.int .i64 z0] 3)):=(Below.refl _ _).alloc (Nat.le_refl _) _;have hbAa:=step hbAB hbBa;have hrowB:=(hbAa.block wr.heap.size hXA).trans hrowA;have hoB:=Ow.made2 wB (z1:Int) (z0:Int) (show w0.heap.size<=wB.heap.size by have:=hbAB.size;omega)
            have hneB:∀ b,(Value.slice (some ⟨wB.heap.size,0,none⟩) 2 2).ownBlock=some b->b≠wr.heap.size:=fun b hb=>by have h1:wB.heap.size=b:=Option.some.inj hb;have:=hbAB.size;omega
            have hcX:=cell_of_row _ _ 1 _ _ (0,0) hrowB;have hfX:=frozen_of_row _ wr.heap.size 1 _ _ hrowB;have hcX':(wB.alloc (.cells #[.int .i64 z1,.int .i64 z0] 3)).cell? ⟨wr.heap.size,1,none⟩=some (.slice (some ⟨w9.heap.size,0,none⟩) 2 2):=hcX;clear hwB hcX
            go_wp2
            go_meet
            case rel=>exact sw_cell hG0 hBw hrowB hw0 hoB hneB (by omega) (by omega) (rv_mk (k:=4) (v:=0) (n:=2) rfl hs2 hs4 (by omega) Hok2'.out (kind4 s)) (hrA.belowN hbAa (by omega) (by omega)) (grown_low hgA (hbAa.mono (by omega)))
          ·have es2:IntKind.i64.wrap (nth g z0-nth g z1)=nth g z0-nth g z1:=IntWalk.i64_in _ (by omega)
           have hgd:∀ nq,w0.grownBy (w7.drewN nq) (some G):=fun nq=>⟨hgw7.os,hgw7.tape,hgw7.output,hgw7.size,hgw7.block⟩
           have Hgdd:=Lib.hid hgd;have hrd:=hr7.more (show P+2+2*u+1<=P+40 by omega);have es3:wrap64 ((s:Int)-1)=(s:Int)-1:=IntWalk.wrap64_in _ ⟨by omega,by omega⟩;have es4:wrap64 (-(nth g z0-nth g z1))= -(nth g z0-nth g z1):=IntWalk.wrap64_in _ ⟨by omega,by omega⟩;clear hgd
           go_wp2_with fail
           go_quiet (fail)
           go_wp2_with (refine wpList_store_row rfl 88 _ _ rfl wr.heap.size #[.int .i64 5,.slice (some ⟨gb,0,none⟩) 2 c',.int .i64 _] rfl rfl 88 #[.int .i64 2,.slice (some ⟨gb,0,none⟩) q c',.int .i64 s1] hrow7 (Hi.out _ _ _ _ _) rfl (Hone.out _ _ _ _ _) ?_)
           all_goals
            go_meet
            case rel=>exact sw_set hG0 hBw hrow7 hw0 hpre hneP (by omega) (by omega) (rv_mk hplen hs2 hs4 (by omega) Hpok.out (kind5 (by omega) (by omega))) hrd (Hgdd.out _)
          ·go_wp2_with (refine wpList_store_row rfl 88 _ _ rfl wr.heap.size #[.int .i64 1,.slice (some ⟨gb,0,none⟩) 2 c',.int .i64 0] rfl rfl 88 #[.int .i64 2,.slice (some ⟨gb,0,none⟩) q c',.int .i64 s1] hrow7 (Hi.out _ _ _ _ _) rfl (Hone.out _ _ _ _ _) ?_)
           go_meet
           case rel=>exact sw_set hG0 hBw hrow7 hw0 hpre hneP (by omega) (by omega) (rv_mk hplen hs2 hs4 (by omega) Hpok.out (kind1 s)) (hr7.more (by omega)) hgw7
         ·have hq2I:¬ (1:Int)<(q:Int):=(by omega)
          rcases hv5 with rfl|rfl|rfl
          all_goals
           go_wp2
           go_meet
           case rel=>exact ⟨_,_,_,_,_,cs,hrow7,⟨ho7,hneX⟩,hn1,hn4,Hok.out,hr7.more (by omega),hgw7⟩
        ·go_wp2
         go_meet
         case rel=>exact ⟨_,_,_,_,_,cs,hrow7,⟨ho7,hneX⟩,hn1,hn4,Hok.out,hr7.more (by omega),hgw7⟩
       case rest=>
        obtain ⟨k8,A8,n8,c8,v8,xs8,hrow8,⟨ho8,ho8n⟩,hn81,hn84,hv8,hr8,hg8⟩:=hcut
        go_wp2_with fail
        refine (odd_any B G (P+40) m _ hr8 hBG (by omega) hm).mono ?_;rintro e w10 ⟨ob,rfl,hob,hr10,hg10⟩;have hXc:wr.heap.size<wc.heap.size:=(Array.getElem?_eq_some_iff.1 hrow8).1;have hXG:wr.heap.size≠G:=Nat.ne_of_gt hGr;have hrow10:=(hg10.block wr.heap.size hXc (fun e=>hXG (Option.some.inj e))).trans hrow8;have ho10:=ho8.keptG hg10 hG0;have hg010:=hg8.trans hg10;have hX10:=Nat.lt_of_lt_of_le hXc hg10.size;have Hone:=Lib.hid rule_one;have Hi:=Lib.hid rule_info;clear hrow8 ho8 hg8 hg10 hr8
        go_upto_if 194 with fail
        go_cut [] from 29 (fun wx=>FinRel w0 B G P wr.heap.size s m wx)
        case first=>as_aux_lemma=>
         cases ob
         ·go_wp2
          go_meet
          case rel=>exact ⟨k8,A8,n8,c8,v8,xs8,hrow10,ho10,by omega,fun _=>hv8,hr10.more (by omega),hg010⟩
         ·have hm1:¬ m<1:=fun hh=>by have:=hob (by omega);cases this
          have Hm1:=Lib.hid (fun (h:m<1)=>(hm1 h).elim (C:=False))
          go_wp2_with fail
          refine (pick_any B G (P+40+1) 4 _ hr10 hBG (by omega)).mono ?_;rintro e w11 ⟨v11,rfl,⟨d0,d1,_⟩,hr11,hg11⟩;have hrow11:=(hg11.block wr.heap.size hX10 (fun e=>hXG (Option.some.inj e))).trans hrow10;have ho11:=ho10.keptG hg11 hG0;have hg011:=hg010.trans hg11;have hX11:=Nat.lt_of_lt_of_le hX10 hg11.size;have hB11:B<=w11.heap.size:=(by omega);have hG11:G<w11.heap.size:=(by omega);have hv11:v11=0\/v11=1\/v11=2\/v11=3:=(by have:=d1 (by omega);omega);clear d1 hrow10 ho10 hg010
          rcases hv11 with rfl|rfl|rfl|rfl
          ·go_wp2_with fail
           refine (pick_any B G (P+40+1+1) 2 _ (hr11.alloc hB11 _) hBG (by omega)).mono ?_;rintro e w12 ⟨v12,rfl,⟨f0,f1,_⟩,hr12,hg12⟩
           have hcl:=fun i=>lit_cell hg12 hG11 i
           have Hcl:=Lib.hid hcl;obtain ⟨ho12,hgr12⟩:=own_q1 ho11 hG0 hg12;have hrow12:=(hgr12.block wr.heap.size hX11 (fun e=>hXG (Option.some.inj e))).trans hrow11;have hcX:w12.cell? ⟨wr.heap.size,0,none⟩=some (.int .i64 k8):=cell_of_row _ _ 0 _ _ (0,0) hrow12;have hfX:=frozen_of_row _ wr.heap.size 0 _ _ hrow12;have hv12:v12=0\/v12=1:=(by have:=f1 (by omega);omega);clear f1 hcl
           rcases hv12 with rfl|rfl
           ·have hc:=Hcl.out 0
            simp at hc
            go_wp2
            go_meet
            case rel=>exact fin_k (P:=P) hG0 hBw hrow12 hw0 ho12 ho8n (by omega) Hm1.out (hr12.more (by omega)) (hg011.trans hgr12)
           ·have hc:=Hcl.out 1
            simp at hc
            go_wp2
            go_meet
            case rel=>exact fin_k (P:=P) hG0 hBw hrow12 hw0 ho12 ho8n (by omega) Hm1.out (hr12.more (by omega)) (hg011.trans hgr12)
          ·have hA8:∃ g8,A8=some ⟨g8,0,none⟩/\w0.heap.size<=g8/\g8<w11.heap.size:=ho11.form (by omega);obtain ⟨g8,hA8e,hg8lo,hg8hi⟩:=hA8;subst hA8e;have hS0:w11.cell? ⟨wr.heap.size,1,none⟩=some (.slice (some ⟨g8,0,none⟩) n8 c8):=cell_of_row _ _ 1 _ _ (0,0) hrow11;have hS1:=ow_cell ho11 (show 0<n8 by omega);have hS2:=frozen_of_row _ wr.heap.size 1 _ _ hrow11;have HS:Hid (∀ w',Below w11.heap.size w11 w'->w'.cell? ⟨wr.heap.size,1,none⟩=some (.slice (some ⟨g8,0,none⟩) n8 c8)/\w'.cell? ⟨g8,0,none⟩=some (.int .i64 (nth xs8 0))):=Lib.hid (fun w' hb=>⟨(hb.cell (p:=⟨wr.heap.size,1,none⟩) hX11).trans hS0,(hb.cell (p:=⟨g8,0,none⟩) hg8hi).trans hS1⟩)
           have HF:Hid (∀ w',Below w11.heap.size w11 w'->w'.frozen? ⟨wr.heap.size,1,none⟩=false):=Lib.hid (fun w' hb=>frozen_of_row _ wr.heap.size 1 _ _ ((hb.block wr.heap.size hX11).trans hrow11));have HRD:Hid (∀ w',Below w11.heap.size w11 w'->Rd w' w11.heap.size (some ⟨g8,0,none⟩) n8 xs8):=Lib.hid (fun w' hb=>ho11.rd.below hb)
           have HFin:Hid (∀ (w':World) (A':Option Addr) (c':Nat),Below w11.heap.size w11 w'->Ow w' w11.heap.size A' (n8+1) c' (xs8++[nth xs8 0])->FinRel w0 B G P wr.heap.size s m (w'.setCell ⟨wr.heap.size,1,none⟩ (.slice A' (n8+1) c'))):=
            Lib.hid (fun w' A' c' hb ho=>fin_c (P:=P) hG0 hBw ((hb.block wr.heap.size hX11).trans hrow11) hw0 (ho.mono hg011.size) (fun b hb'=>by have:=ho.own_lo b hb';omega) (by omega) Hm1.out ((hr11.belowN hb hG11 hB11).more (by omega)) (grown_low hg011 (hb.mono hg011.size)))
           have hn8:n8<=1099511627776:=(by omega);have hl8:0<n8:=(by omega);have hl8I:(0:Int)<(n8:Int):=(by omega);clear hrow11 ho11 hg011 hr11
           go_wp2_with fail
           refine region43 _ w11 wr.heap.size g8 n8 c8 xs8 (by show (223:Nat)<232;omega) (by rfl) hX11 hS0 hS2 (HRD.out _ (Below.refl _ _)) hl8 hn8 panic_move ?_;intro u0 u3 u8 u9 A14 c14 w14 hb14 ho14;simp only [put43,Act.put,List.setIfInBounds_toArray,List.set_cons_zero,List.set_cons_succ]
           go_wp2
           go_meet
           case rel=>exact HFin.out _ _ _ hb14 ho14
          ·have hb11a:Below w11.heap.size w11 (w11.alloc (.cells #[.int .i64 (s*s:Int),.int .i64 0] 3)):=(Below.refl _ _).alloc (Nat.le_refl _) _;have hrowC:=(hb11a.block wr.heap.size hX11).trans hrow11;have hoC:=Ow.made2 w11 (s*s:Int) 0 hg011.size
           have hneC:∀ b,(Value.slice (some ⟨w11.heap.size,0,none⟩) 2 2).ownBlock=some b->b≠wr.heap.size:=fun b hb=>by have h1:w11.heap.size=b:=Option.some.inj hb;omega
           have hcX:(w11.alloc (.cells #[.int .i64 (s*s:Int),.int .i64 0] 3)).cell? ⟨wr.heap.size,1,none⟩=some (.slice A8 n8 c8):=cell_of_row _ _ 1 _ _ (0,0) hrowC;have hfX:=frozen_of_row _ wr.heap.size 1 _ _ hrowC
           go_wp2
           go_meet
           case rel=>rw [<- World.setCell_alloc_past _ _ _ _ hX11];exact fin_c (P:=P) hG0 hBw hrowC hw0 hoC hneC (by omega) Hm1.out ((hr11.alloc hB11 _).more (by omega)) (only_alloc hg011 _)
          ·go_wp2_with fail
           refine (pick_any B G (P+40+1+1) 2 _ (hr11.alloc hB11 _) hBG (by omega)).mono ?_;rintro e w12 ⟨v12,rfl,⟨f0,f1,_⟩,hr12,hg12⟩
           have hcl:=fun i=>lit_cell hg12 hG11 i
           have Hcl:=Lib.hid hcl;obtain ⟨ho12,hgr12⟩:=own_q1 ho11 hG0 hg12;have hrow12:=(hgr12.block wr.heap.size hX11 (fun e=>hXG (Option.some.inj e))).trans hrow11;have hcX:w12.cell? ⟨wr.heap.size,2,none⟩=some (.int .i64 v8):=cell_of_row _ _ 2 _ _ (0,0) hrow12;have hfX:=frozen_of_row _ wr.heap.size 2 _ _ hrow12;have hv12:v12=0\/v12=1:=(by have:=f1 (by omega);omega);clear f1 hcl
           rcases hv12 with rfl|rfl
           ·have hc:=Hcl.out 0
            simp at hc
            go_wp2
            go_meet
            case rel=>exact fin_v (P:=P) hG0 hBw hrow12 hw0 ho12 ho8n (by omega) Hm1.out (hr12.more (by omega)) (hg011.trans hgr12)
           ·have hc:=Hcl.out 1
            simp at hc
            go_wp2
            go_meet
            case rel=>exact fin_v (P:=P) hG0 hBw hrow12 hw0 ho12 ho8n (by omega) Hm1.out (hr12.more (by omega)) (hg011.trans hgr12)
        case rest=>
         obtain ⟨k9,A9,n9,c9,v9,xs9,hrow9,ho9,hn9,hv9,hr9,hg9⟩:=hcut;have hR9:=(hg9.block R0 hRw (fun e=>hRG (Option.some.inj e))).trans hR0
         go_wp2_with (first|(refine wpList_load_row rfl 88 _ rfl wr.heap.size rfl 88 #[.int .i64 k9,.slice A9 n9 c9,.int .i64 v9] (0,0) _ hrow9 Tryz.underlying88 rfl (Hi.out _ _ _ _ _) ?_)|(refine wpList_store_row rfl 88 _ _ rfl R0 #[.int .i64 k9,.slice A9 n9 c9,.int .i64 v9] rfl rfl 88 #[.int .i64 0,.slice none 0 0,.int .i64 0] hR9 (Hi.out _ _ _ _ _) rfl (Hone.out _ _ _ _ _) ?_))
         refine bodyPost_ret (v:=.agg #[.int .i64 k9,.slice A9 n9 c9,.int .i64 v9]) (results_cell_row (by rfl) _ _ R0 88 _ (0,0) _ rfl (setRow_heap _ _ _ _ _ _ hR9) Tryz.underlying88 rfl (Hi.out _ _ _ _ _)) rfl ⟨k9,A9,n9,c9,v9,xs9,rfl,(ho9.row5 (fun b hb=>?_)).mono hb00.size,hn9,hv9,(hr9.belowN (setRow_below5 (Below.refl R0 _) (Nat.le_refl _)) hGw hBw').more (by omega),grown_low (hg0.trans hg9) (setRow_below5 (Below.refl _ _) (Nat.le_of_eq HR.out.symm))⟩;have:=ho9.own_lo b hb;omega
   ·obtain ⟨hu4,hn4⟩:=hbb rfl;obtain ⟨gb,rfl,hgb,hgbw⟩:=ho.form (by omega);have hBr:B<=wr.heap.size:=(by have:=hr.lt;omega);have hGgb:G<gb:=(by omega);have hgn0:=Nat.ne_of_lt hgbw;have hglr:=hr.lt
    have hcell:∀ i,i<n->0<=nth cs i/\nth cs i<=size*size-1:=fun i hi=>by
     have:=hc i hi;simp only [cellOk,Bool.and_eq_true] at this;exact inr_t this.1
    have Hcell:=Lib.hid hcell;have en:IntKind.i64.wrap (-size)= -size:=IntWalk.i64_in _ (by omega);have hP1:P+2+2*u<=1099511627776:=(by omega);have hP2:P+2+2*u+1<=1099511627776:=(by omega);have hnI:1<=(n:Int):=(by omega);have hcs:=Lib.hid hc;clear hcell hc
    go_wp2_with fail
    go_cut [12] from 29 to 85 (fun cv wx=>∃ y:Int,cv=.int .i64 y/\ -4<=y/\y<=20/\Ow wx w0.heap.size (some ⟨gb,0,none⟩) n c' cs/\Rdr wx B G (P+2+2*u+1+1)/\wr.grownBy wx (some G))
    case first=>as_aux_lemma=>
     go_region_with (first
      |(go_at_call 90;(with_reducible refine (pick_any B G (P+2+2*u) (n:Int) _ ?hd hBG hP1).mono ?_);(case hd=>exact hr);rintro e w3 ⟨v1,rfl,⟨a0,a1,_⟩,hd3,hg3⟩;have ht3:=a1 (by omega);clear a1;have hk3:=grown_at hg3;have hlt3:=hd3.lt;have hle3:=Nat.le_of_lt hlt3;have hB3:=Nat.le_trans hBG hle3;have hs3:=grown_lt hg3;have hz3:=grown_le hg3;obtain ⟨z1,rfl⟩:=Int.eq_ofNat_of_zero_le a0;obtain ⟨ho3,hgr3⟩:=own_p0 ho hG0 hg3;have hc3:=ow_cell ho3 (show z1<n by omega);have hc0:=ow_cell ho (show z1<n by omega);have hgb3:=Nat.lt_of_lt_of_le hgbw hgr3.size;have hgn3:=Nat.ne_of_lt hgb3)
      |(go_at_call 90;(with_reducible refine (pick_any B G (P+2+2*u) (n:Int) _ ?hd hBG hP1).mono ?_);(case hd=>exact hr.alloc hBr _);rintro e w3 ⟨v1,rfl,⟨a0,a1,_⟩,hd3,hg3⟩;have ht3:=a1 (by omega);clear a1;have hk3:=grown_at hg3;have hlt3:=hd3.lt;have hle3:=Nat.le_of_lt hlt3;have hB3:=Nat.le_trans hBG hle3;have hs3:=grown_lt hg3;have hz3:=grown_le hg3;obtain ⟨z1,rfl⟩:=Int.eq_ofNat_of_zero_le a0;obtain ⟨ho3,hgr3⟩:=own_p1 ho hG0 hg3;obtain ⟨hp3,hq3⟩:wr.heap.size<w3.heap.size/\wr.heap.size<=w3.heap.size:=grown_lt1d hg3;have hc3:=ow_cell ho3 (show z1<n by omega);have hc0:=ow_cell ho (show z1<n by omega);have hgb3:=Nat.lt_of_lt_of_le hgbw hgr3.size;have hgn3:=Nat.ne_of_lt hgb3)
      |(go_at_call 90;(with_reducible refine (pick_any B G (P+2+2*u+1) 4 _ ?hd hBG hP2).mono ?_);(case hd=>exact hd3);rintro e w4 ⟨v2,rfl,⟨b0,b1,_⟩,hd4,hg4⟩;have ht4:=b1 (by omega);clear b1;have hk4:=grown_at hg4;have hlt4:=hd4.lt;have hle4:=Nat.le_of_lt hlt4;have hs4:=grown_lt hg4;have hz4:=grown_le hg4;obtain ⟨z2,rfl⟩:=Int.eq_ofNat_of_zero_le b0;obtain ⟨d,d0,d1,t1,t2⟩:=tblD size z2 (by omega) h2s h4s;have hcb:=Hcell.out z1 (by omega);have es:IntKind.i64.wrap (nth cs z1+d)=nth cs z1+d:=IntWalk.i64_in _ (by omega);skip;obtain ⟨ho4,hgr4⟩:=own_q0 ho3 hG0 hg4;have hp24:=Nat.lt_of_lt_of_le hp3 hg4.size;have hq24:=Nat.le_of_lt hp24;have hc4:=ow_cell ho4 (show z1<n by omega);have hgrr:=hgr3.trans hgr4;have hB4:=Nat.le_trans hBG hle4;have hgb4:=Nat.lt_of_lt_of_le hgbw hgrr.size;have hgn4:=Nat.ne_of_lt hgb4)
      |(go_at_call 90;(with_reducible refine (pick_any B G (P+2+2*u+1) 4 _ ?hd hBG hP2).mono ?_);(case hd=>exact hd3);rintro e w4 ⟨v2,rfl,⟨b0,b1,_⟩,hd4,hg4⟩;have ht4:=b1 (by omega);clear b1;have hk4:=grown_at hg4;have hlt4:=hd4.lt;have hle4:=Nat.le_of_lt hlt4;have hs4:=grown_lt hg4;have hz4:=grown_le hg4;obtain ⟨z2,rfl⟩:=Int.eq_ofNat_of_zero_le b0;obtain ⟨d,d0,d1,t1,t2⟩:=tblD size z2 (by omega) h2s h4s;have hcb:=Hcell.out z1 (by omega);have es:IntKind.i64.wrap (nth cs z1+d)=nth cs z1+d:=IntWalk.i64_in _ (by omega);skip;obtain ⟨ho4,hgr4⟩:=own_q0 ho3 hG0 hg4;have hc4:=ow_cell ho4 (show z1<n by omega);have hgrr:=hgr3.trans hgr4;have hB4:=Nat.le_trans hBG hle4;have hgb4:=Nat.lt_of_lt_of_le hgbw hgrr.size;have hgn4:=Nat.ne_of_lt hgb4)
      |(go_at_call 90;(with_reducible refine (pick_any B G (P+2+2*u+1) 4 _ ?hd hBG hP2).mono ?_);(case hd=>exact hd3.alloc hB3 _);rintro e w4 ⟨v2,rfl,⟨b0,b1,_⟩,hd4,hg4⟩;have ht4:=b1 (by omega);clear b1;have hk4:=grown_at hg4;have hlt4:=hd4.lt;have hle4:=Nat.le_of_lt hlt4;have hs4:=grown_lt hg4;have hz4:=grown_le hg4;obtain ⟨z2,rfl⟩:=Int.eq_ofNat_of_zero_le b0;obtain ⟨d,d0,d1,t1,t2⟩:=tblD size z2 (by omega) h2s h4s;have hcb:=Hcell.out z1 (by omega);have es:IntKind.i64.wrap (nth cs z1+d)=nth cs z1+d:=IntWalk.i64_in _ (by omega);skip;obtain ⟨ho4,hgr4⟩:=own_q1 ho3 hG0 hg4;obtain ⟨hp4,hq4⟩:=grown_lt1 hg4;have hc4:=ow_cell ho4 (show z1<n by omega);have hgrr:=hgr3.trans hgr4;have hB4:=Nat.le_trans hBG hle4;have hgb4:=Nat.lt_of_lt_of_le hgbw hgrr.size;have hgn4:=Nat.ne_of_lt hgb4))
     all_goals
      go_wp2
      go_meet
      case rel=>first|exact ⟨_,rfl,by omega,by omega,ho4,hd4,hgrr⟩|exact ⟨_,rfl,by omega,by omega,ho4.below ((Below.refl _ _).alloc (Nat.le_refl _) _),hd4.alloc hB4 _,only_alloc hgrr _⟩
    case rest=>as_aux_lemma=>
     obtain ⟨y,rfl,y0,y1,ho5,hr5,hg5⟩:=hcut;have hgw5:=hgw.trans hg5
     go_upto_region 7 with fail
     go_cut [13] from 29 to 85 (fun fv wx=>fv=.bool (inr y 0 (size*size-1))/\wc=wx)
     case first=>
      by_cases l0:0<=y
      ·by_cases l1:y<size*size
       ·have hi:inr y 0 (size*size-1)=true:=(by simp [inr];omega)
        go_wp2
        go_meet
        case rel=>exact ⟨by rw [hi],rfl⟩
       ·have hi:inr y 0 (size*size-1)=false:=(by unfold inr;rw [decide_eq_false_iff_not];omega)
        go_wp2
        go_meet
        case rel=>exact ⟨by rw [hi],rfl⟩
      ·have hi:inr y 0 (size*size-1)=false:=(by unfold inr;rw [decide_eq_false_iff_not];omega)
       go_wp2
       go_meet
       case rel=>exact ⟨by rw [hi],rfl⟩
     case rest=>
      obtain ⟨rfl,rfl⟩:=hcut
      go_wp2
      go_loopg [13,14] n (fun gk fv jv wx=>∃ q:Nat,q<=n/\gk=n-q/\jv=.int .i64 q/\fv=.bool (inr y 0 (size*size-1)&& !(memTo cs y q))/\wc=wx)
      case atStart=>exact ⟨0,Nat.zero_le _,rfl,rfl,by simp [memTo],rfl⟩
      case round=>
       obtain ⟨q,hq,hgq,rfl,rfl,rfl⟩:=hrel
       by_cases hlt:q<n
       ·have hcq:=ow_cell ho5 hlt;have hltI:(q:Int)<(n:Int):=(by omega);cases hb:(inr y 0 (size*size-1)&& !(memTo cs y q))
        ·have Hst:=Lib.hid (show (inr y 0 (size*size-1)&& !(memTo cs y (q+1)))=false by
          simp only [memTo,Bool.not_or,<-Bool.and_assoc,hb,Bool.false_and])
         go_wp2
         go_roundg (n-(q+1))
         case measure=>omega
         case rel=>exact ⟨q+1,by omega,rfl,by go_num,by rw [Hst.out],rfl⟩
        ·have Hst:=Lib.hid (show (inr y 0 (size*size-1)&& !(memTo cs y (q+1)))=(nth cs q != y) by
          simp only [memTo,Bool.not_or,<-Bool.and_assoc,hb,Bool.true_and];rfl)
         go_wp2
         go_roundg (n-(q+1))
         case measure=>omega
         case rel=>exact ⟨q+1,by omega,rfl,by go_num,by rw [Hst.out],rfl⟩
       ·obtain rfl:q=n:=by omega
        cases hb:(inr y 0 (size*size-1)&& !(memTo cs y q))
        ·go_wp2
         go_roundg (4*many-(u+1))
         case measure=>omega
         case rel=>exact ⟨u+1,q,_,_,cs,by omega,rfl,by go_num,rfl,by omega,by omega,ho5,hcs.out,hr5.more (by omega),hgw5⟩
        ·have hq1:q<=1099511627776:=(by omega);have hlo:w0.heap.size<=wc.heap.size:=hgw5.size
         go_wp2_with (at_builtin;refine push_int rfl (.tmp 82) (.tmp 84) rfl w0.heap.size _ q c' cs y rfl rfl ho5 hq1 hlo ?_;intro A6 c6 w6 ho6 hg6)
         go_roundg (4*many-(u+1))
         case measure=>omega
         case rel=>exact ⟨u+1,q+1,_,_,cs++[y],by omega,rfl,by go_num,rfl,by omega,by omega,ho6,cellsOk_push ho5.len hcs.out hb,(hr5.belowN (push_below (Below.refl _ _) ho5 (Nat.le_refl _) hlo hg6) hG0 hBw).more (by omega),grown_low hgw5 (push_below (Below.refl _ _) ho5 (Nat.le_refl _) hlo hg6)⟩
end Go.Proofs.YtkeoflnmbcdmfaaGreatDoor
