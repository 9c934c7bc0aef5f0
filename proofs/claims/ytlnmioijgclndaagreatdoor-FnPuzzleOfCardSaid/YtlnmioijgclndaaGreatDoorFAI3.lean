import Derived.Test.YtlnmioijgclndaaGreatDoorFAFt
set_option maxRecDepth 8000
namespace Go.Proofs.YtlnmioijgclndaaGreatDoor
open Go.ChangeShapes Go.WideShapes Go.ChangeAt Go.RowKit
def anQ (x y:Nat):Bool:=(bits .andNot .i64 (x:Int) (y:Int) != 0)||(List.range 5).all fun t=> !x.testBit t||y.testBit t
theorem anQ_key:∀ x,x<32->∀ y,y<32->anQ x y=true:=by decide +kernel
theorem an_bits {x y:Nat} (hx:x<32) (hy:y<32) (h:bits .andNot .i64 (x:Int) (y:Int)=0) (t:Nat) (ht:x.testBit t=true):y.testBit t=true:=by
 have t5:t<5:=by
  rcases Nat.lt_or_ge t 5 with h|h
  ·exact h
  ·rw [Nat.testBit_lt_two_pow (Nat.lt_of_lt_of_le hx (Nat.pow_le_pow_right (n:=2) (by omega) h))] at ht;cases ht
 have key:=anQ_key x hx y hy;unfold anQ at key;rw [h] at key;simp only [bne_self_eq_false,Bool.false_or,List.all_eq_true,List.mem_range,Bool.or_eq_true,Bool.not_eq_true'] at key
 rcases key t t5 with h|h
 ·rw [ht] at h;cases h
 ·exact h
theorem Wi.trans {a b c:List Int} {s:Int} (ha:mvd a s=true) (hb:mvd b s=true) (hc:mvd c s=true) (hl:b.length=c.length) (h:Wi a b) (h':Wi b c):Wi a c:=fun k hk=>by
 obtain ⟨a0,a1,_⟩:=mvd_nth ha k;obtain ⟨b0,b1,_⟩:=mvd_nth hb k;obtain ⟨c0,c1,_⟩:=mvd_nth hc k;have e1:=h k (by omega);have e2:=h' k hk;obtain ⟨x,hx⟩:=Int.eq_ofNat_of_zero_le a0;obtain ⟨y,hy⟩:=Int.eq_ofNat_of_zero_le b0;obtain ⟨z,hz⟩:=Int.eq_ofNat_of_zero_le c0;rw [hx,hy] at e1;rw [hy,hz] at e2;rw [hx,hz];exact an_zero (by omega) (by omega) (fun t ht=>an_bits (by omega) (by omega) e2 t (an_bits (by omega) (by omega) e1 t ht))
theorem nrIn_wi {k v s:Int} {xs o:List Int} (hv:rv k xs v s=true) (hm:mvd o s=true) (j:Nat) (hj:j<=xs.length):Wi (nrIn xs (rmL k xs v o s) o j) o:=by
 induction j with
 |zero=>exact Wi.refl hm
 |succ j ih=>
  intro i hi;have hlen:=(nrIn_sub hv hm j (by omega)).1;have ih:=ih (by omega) i hi;simp only [nrIn]
  by_cases e:(nth xs j).toNat=i
  ·subst e;rw [nth_set (by rw [hlen];exact hi),if_pos rfl];exact rm_part hv hm (by omega)
  ·rw [nth_set_ne e];exact ih
theorem nrTo_wi {s:Int} {rs:List RuleM} {m:List Int} (hm:mvd m s=true) (hr:∀ i,i<rs.length->rvR s (rat rs i)=true) (u:Nat) (hu:u<=rs.length):Wi (nrTo s rs m u) m:=by
 induction u with
 |zero=>exact Wi.refl hm
 |succ u ih=>
  have hs:=nrTo_sub (m:=m) hm hr u (by omega);have ho:=hs.mvd_ hm;have h1:=nrIn_sub (hr u (by omega)) ho _ (Nat.le_refl _);exact Wi.trans (h1.mvd_ ho) ho hm hs.1 (nrIn_wi (hr u (by omega)) ho _ (Nat.le_refl _)) (ih (by omega))
theorem nr_wi {s:Int} {gi:List Int} {rs:List RuleM} {m:List Int} (hv:pvB s gi rs=true) (hm:mvd m s=true):Wi (nrL s gi rs m) m:=by
 unfold nrL;rw [hv,hm,Bool.true_and,if_pos rfl];exact nrTo_wi hm (pv_gv hv).2.2 _ (Nat.le_refl _)
theorem way_in {k v s:Int} {xs o g:List Int} (hv:rv k xs v s=true) (hh:rhB k xs v g s=true) (hg:gv g s=true) (ho:∀ i,i<g.length->inMask o g i=true):pks g xs xs.length∈waysN k v (pks o xs xs.length) xs.length:=by
 obtain ⟨⟨s2,s4⟩,_,_,hx⟩:=rv_facts rfl hv;simp only [rhB,Bool.and_eq_true,Bool.not_eq_true'] at hh;have hnz:=mem_ne hh.1.2;have hlg:=gv_len hg;refine List.mem_filter.2 ⟨allW_mem _ _ _ (by simp [pks_length]) (fun i hi=>absurd hi (by simp)) (fun i _ hi=>?_),hh.2⟩
 have hi':i<xs.length:=by simpa using hi
 have h0:=hnz i hi';rw [pks_nth hi'] at h0 ⊢;rw [pks_nth hi'];obtain ⟨x0,x1⟩:=hx i hi'
 have hp:(nth xs i).toNat<g.length:=by omega
 obtain ⟨q0,q1⟩:=gv_nth hg hp;have hb:=ho _ hp;unfold inMask at hb;exact bits_iff.2 ⟨(nth g (nth xs i).toNat).toNat,by omega,by omega,by omega,hb⟩
theorem nrIn_in {k v s:Int} {xs o g:List Int} (hv:rv k xs v s=true) (hm:mvd o s=true) (hh:rhB k xs v g s=true) (hg:gv g s=true) (ho:∀ i,i<g.length->inMask o g i=true) (j:Nat) (hj:j<=xs.length):∀ i,i<g.length->inMask (nrIn xs (rmL k xs v o s) o j) g i=true:=by
 have hw:=way_in hv hh hg ho
 induction j with
 |zero=>exact ho
 |succ j ih=>
  intro i hi;have ih:=ih (by omega) i hi;have hlen:=(nrIn_sub hv hm j (by omega)).1;have hlo:=(mvd_at hm).2.1;have hlg:=gv_len hg;unfold inMask at ih ⊢;simp only [nrIn]
  by_cases e:(nth xs j).toNat=i
  ·subst e;rw [nth_set (by omega),if_pos rfl,rm_nth hv hm,Int.toNat_natCast,rmF_bit (by omega)];exact ⟨_,hw,by rw [pks_nth (by omega)]⟩
  ·rw [nth_set_ne e];exact ih
theorem nrTo_in {s:Int} {rs:List RuleM} {m g:List Int} (hm:mvd m s=true) (hr:∀ i,i<rs.length->rvR s (rat rs i)=true) (hh:∀ i,i<rs.length->rhB (rat rs i).k (rat rs i).xs (rat rs i).v g s=true) (hg:gv g s=true) (ho:∀ i,i<g.length->inMask m g i=true) (u:Nat) (hu:u<=rs.length):∀ i,i<g.length->inMask (nrTo s rs m u) g i=true:=by
 induction u with
 |zero=>exact ho
 |succ u ih=>
  have hs:=nrTo_sub (m:=m) hm hr u (by omega);exact nrIn_in (hr u (by omega)) (hs.mvd_ hm) (hh u (by omega)) hg (ih (by omega)) _ (Nat.le_refl _)
theorem ps_rules {s:Int} {gi g:List Int} {rs:List RuleM} (h:psB s gi rs g=true):pvB s gi rs=true/\gv g s=true/\sqSolved g s=true/\∀ i,i<rs.length->rhB (rat rs i).k (rat rs i).xs (rat rs i).v g s=true:=by
 have hf:fpB s gi rs g=true:=by unfold psB at h;rw [Bool.and_eq_true] at h;exact h.1
 obtain ⟨h1,h2,_⟩:=fp_parts.1 hf;rw [ps_is h1 h2] at h;simp only [Bool.and_eq_true,List.all_eq_true,List.mem_range] at h;exact ⟨h1,h2,h.1.1,h.1.2⟩
theorem nr_keeps {s:Int} {gi m g:List Int} {rs:List RuleM} (hm:mvd m s=true) (hg:psB s gi rs g=true) (h:mhB m s g=true):mhB (nrL s gi rs m) s g=true:=by
 obtain ⟨hv,hgv,_,hh⟩:=ps_rules hg;simp only [mhB,Bool.and_eq_true,List.all_eq_true,List.mem_range] at h ⊢;refine ⟨⟨(nr_sub hv hm).mvd_ hm,hgv⟩,?_⟩;unfold nrL;rw [hv,hm,Bool.true_and,if_pos rfl];exact nrTo_in hm (pv_gv hv).2.2 hh hgv h.2 _ (Nat.le_refl _)
theorem nsIn_wi {m o:List Int} {s:Int} {S i:Nat} (hm:mvd m s=true) (hs:Sub o m) (h:Wi o m) (k:Nat):Wi (nsIn m S i o k) m:=by
 induction k with
 |zero=>exact h
 |succ k ih=>
  simp only [nsIn]
  split
  ·exact ih.anput (nsIn_sub hm hs k) hm ⟨(mvd_nth hm i).1,(mvd_nth hm i).2.1⟩ k
  ·exact ih
theorem nsTo_wi {m:List Int} {s:Int} {S n:Nat} (hm:mvd m s=true) (i:Nat):Wi (nsTo m S n i) m:=by
 induction i with
 |zero=>exact Wi.refl hm
 |succ i ih=>
  simp only [nsTo]
  split
  ·exact nsIn_wi hm (nsTo_sub hm i) ih n
  ·exact ih
theorem ns_wi {m:List Int} {s:Int} (hm:mvd m s=true) (n:Nat):Wi (nsL m s n) m:=by
 unfold nsL;rw [if_pos hm];exact nsTo_wi hm n
theorem pow_bit (v t:Nat) (h:((2:Nat)^v).testBit t=true):v=t:=by
 rw [Nat.testBit_two_pow,decide_eq_true_eq] at h;exact h
theorem nsIn_in {m g o:List Int} {s i:Nat} (hs:s∈[2,3,4]) (hm:mvd m s=true) (hsb:Sub o m) (hl:g.length=s*s) (hg:sqSolved g s=true) (hi:i<s*s) (hone:(maskVals (nth m i)).length=1) (hin:inMask m g i=true) (ho:∀ k,k<s*s->inMask o g k=true) (K:Nat) (hK:K<=s*s):∀ k,k<s*s->inMask (nsIn m s i o K) g k=true:=by
 obtain ⟨hgv,hcl,hnz⟩:=(solved_iff hl).1 hg
 have hg4:∀ k,k<s*s->0<=nth g k/\(nth g k).toNat<5:=fun k hk=>by
  obtain ⟨q0,q1⟩:=gv_nth hgv (k:=k) (by omega);have:=gv_size hgv;omega
 obtain ⟨v,v1,v4,hx⟩:∃ v:Nat,1<=v/\v<=4/\nth m i=2^v:=by
  rcases one_at hm i with ⟨_,v,a,b,_,d⟩|⟨h,_⟩
  ·exact ⟨v,a,b,d⟩
  ·exact absurd hone h
 have hxN:nth m i=((2^v:Nat):Int):=by rw [hx];simp
 have hlt:2^v<32:=by
  have:(2:Nat)^v<2^5:=Nat.pow_lt_pow_right (by omega) (by omega);omega
 have hgi:(nth g i).toNat=v:=by
  unfold inMask at hin;rw [hxN,Int.toNat_natCast] at hin;exact (pow_bit _ _ hin).symm
 intro k hk;have hln:=len_of hs hm
 have hlo:o.length=s*s:=by rw [hsb.1,hln]
 have h0:=ho k hk;unfold inMask at h0 ⊢;rw [nsIn_nth K (by omega)]
 by_cases hc:k<K/\seesB s k i=true
 ·rw [if_pos hc];obtain ⟨⟨x0,x1,_⟩,_⟩:=hsb.at_ hm (k:=k) (by rw [hln];exact hk);obtain ⟨x,hxx⟩:=Int.eq_ofNat_of_zero_le x0;rw [hxx] at h0 ⊢;rw [Int.toNat_natCast] at h0;rw [hxN,an_bit x (by omega) (2^v) hlt _ (hg4 k hk).2,h0,Bool.true_and,Bool.not_eq_true'];cases e:(2^v).testBit (nth g k).toNat
  ·rfl
  ·have e1:=pow_bit _ _ e;have hadj:adj s k i=true:=(by simpa [seesB,adj] using hc.2);have:clash g s=true:=(clash_iff hs).2 ⟨k,i,hk,hi,hadj,by have:=hg4 k hk;have:=hg4 i hi;omega,by have:=hnz i hi;have:=hg4 i hi;omega⟩;rw [hcl] at this;cases this
 ·rw [if_neg hc];exact h0
theorem nsTo_in {m g:List Int} {s:Nat} (hs:s∈[2,3,4]) (hm:mvd m s=true) (hl:g.length=s*s) (hg:sqSolved g s=true) (hin:∀ k,k<s*s->inMask m g k=true) (i:Nat) (hi:i<=s*s):∀ k,k<s*s->inMask (nsTo m s (s*s) i) g k=true:=by
 induction i with
 |zero=>exact hin
 |succ i ih=>
  simp only [nsTo]
  split
  ·next h1=>exact nsIn_in hs hm (nsTo_sub hm i) hl hg (by omega) h1 (hin i (by omega)) (ih (by omega)) _ (Nat.le_refl _)
  ·exact ih (by omega)
theorem ns_keeps {m g:List Int} {s:Int} {n:Nat} (hn:m.length=n) (hm:mvd m s=true) (hg:sqSolved g s=true) (h:mhB m s g=true):mhB (nsL m s n) s g=true:=by
 obtain ⟨⟨s2,s4⟩,_,_,_⟩:=mvd_at hm;obtain ⟨t,rfl⟩:∃ t:Nat,s=t:=⟨s.toNat,by omega⟩
 have hs:t∈[2,3,4]:=by simp;omega
 have hnt:n=t*t:=by rw [<- hn];exact len_of hs hm
 simp only [mhB,Bool.and_eq_true,List.all_eq_true,List.mem_range] at h ⊢;obtain ⟨⟨_,hgv⟩,hin⟩:=h;have hlg:=gv_len hgv
 have hln:g.length=t*t:=by
  simp at hs
  rcases hs with rfl|rfl|rfl<;>omega
 refine ⟨⟨(ns_sub hm n).mvd_ hm,hgv⟩,?_⟩;rw [hln] at hin ⊢;have:=nsTo_in hs hm hln hg hin (t*t) (Nat.le_refl _);unfold nsL;rw [if_pos hm,Int.toNat_natCast,hnt];exact this
theorem mv_bits' {m:List Int} {s:Int} (hm:mvd m s=true) (k:Nat):∃ M:Nat,nth m k=(M:Int)/\M<32/\maskVals (nth m k)=bitsTo M 4:=by
 obtain ⟨x0,x1,x2⟩:=mvd_nth hm k;obtain ⟨M,hM⟩:=Int.eq_ofNat_of_zero_le x0
 have hm2:M%2=0:=by rw [hM,Int.tmod_eq_emod_of_nonneg (by omega)] at x2;omega
 exact ⟨M,hM,by omega,by rw [hM,mv_bits (by omega) hm2]⟩
theorem nb_wi {s t:Int} {gi m:List Int} {rs:List RuleM} (hv:pvB s gi rs=true) (hm:mvd m s=true) (h1:1<=t) (h4:t<=4):Wi (nbL s gi rs m t) m:=by
 unfold nbL;rw [hv,hm,Bool.true_and,if_pos rfl]
 have:t=1\/t=2\/t=3\/t=4:=by omega
 rcases this with rfl|rfl|rfl|rfl
 ·exact ns_wi hm _
 ·exact nh_wi hm
 ·exact np_wi hm
 ·exact nr_wi hv hm
theorem nb_keeps {s t:Int} {gi m g:List Int} {rs:List RuleM} (hm:mvd m s=true) (hg:psB s gi rs g=true) (h1:1<=t) (h4:t<=4) (h:mhB m s g=true):mhB (nbL s gi rs m t) s g=true:=by
 obtain ⟨hv,_,hsq,_⟩:=ps_rules hg;unfold nbL;rw [hv,hm,Bool.true_and,if_pos rfl]
 have:t=1\/t=2\/t=3\/t=4:=by omega
 rcases this with rfl|rfl|rfl|rfl
 ·exact ns_keeps rfl hm hsq h
 ·exact nh_keeps hm hsq h
 ·exact np_keeps hm hsq h
 ·exact nr_keeps hm hg h
theorem na_keeps {s:Int} {gi m g:List Int} {rs:List RuleM} {most r:Nat} (h4:most<=4) (hm:mvd m s=true) (hg:psB s gi rs g=true) (h:mhB m s g=true):mhB (naE s gi rs most m r).1 s g=true:=
 (naE_ind (fun o=>mhB o s g=true) (ps_rules hg).1 h4 (fun _ _ ho t1 t2 h=>nb_keeps ho hg (by omega) (by omega) h) hm h).1
theorem na_wi {s:Int} {gi m:List Int} {rs:List RuleM} {most r:Nat} (hv:pvB s gi rs=true) (h4:most<=4) (hm:mvd m s=true):Wi (naE s gi rs most m r).1 m/\mvd (naE s gi rs most m r).1 s=true/\(naE s gi rs most m r).1.length=m.length:=by
 have:=naE_ind (r:=r) (fun o=>o.length=m.length/\Wi o m) hv h4 (fun o t ho t1 t2 h=>by
  have hs:=nb_sub (t:=(t:Int)) hv ho (by omega) (by omega)
  exact ⟨hs.1.trans h.1,Wi.trans (hs.mvd_ ho) ho hm h.1 (nb_wi hv ho (by omega) (by omega)) h.2⟩) hm ⟨rfl,Wi.refl hm⟩
 exact ⟨this.1.2,this.2,this.1.1⟩
def sVal (G OB RB n:Nat):Value:=.agg #[.slice (some ⟨G,0,none⟩) n n,.slice (some ⟨OB,0,none⟩) n n,.slice (some ⟨RB,0,none⟩) n n]
def holdsR (ys:List Int) (r:RuleM):Bool:=holdsB r.k r.v (pks ys r.xs r.xs.length)
def holdsQ (ys:List Int) (q:List RuleM):Bool:=(List.range q.length).all fun i=>holdsR ys (rat q i)
def SBox (w:World) (g G OB RB n:Nat):Prop:=w.cell? ⟨g,0,none⟩=some (.slice (some ⟨G,0,none⟩) n n)/\w.cell? ⟨g,1,none⟩=some (.slice (some ⟨OB,0,none⟩) n n)/\w.cell? ⟨g,2,none⟩=some (.slice (some ⟨RB,0,none⟩) n n)
theorem SBox.below {w w':World} {g B G OB RB n:Nat} (h:SBox w g G OB RB n) (hg:g<B) (hb:Below B w w'):SBox w' g G OB RB n:=
 ⟨(hb.cell (p:=⟨g,0,none⟩) hg).trans h.1,(hb.cell (p:=⟨g,1,none⟩) hg).trans h.2.1,(hb.cell (p:=⟨g,2,none⟩) hg).trans h.2.2⟩
theorem SBox.lt {w:World} {g G OB RB n:Nat} (h:SBox w g G OB RB n):g<w.heap.size:=cell_lt h.1
theorem sbox_new (w:World) (G OB RB n:Nat) (t:TypeId):SBox (w.alloc (.cells #[.slice (some ⟨G,0,none⟩) n n,.slice (some ⟨OB,0,none⟩) n n,.slice (some ⟨RB,0,none⟩) n n] t)) w.heap.size G OB RB n:=
 ⟨cell_of_row _ _ 0 _ _ (0,0) (heap_alloc_new w _),cell_of_row _ _ 1 _ _ (0,0) (heap_alloc_new w _),cell_of_row _ _ 2 _ _ (0,0) (heap_alloc_new w _)⟩
theorem nHolds1 (k v:Int) (A:Option Addr) (n c:Nat) (w:World):(nilAhead 318 172 (.agg #[.int .i64 k,.slice A n c,.int .i64 v]) "loop.example/gridpuzzles/impl.holdsWith").run Tryz.prog w=.ok (some false) w:=by kernel_rfl
theorem nHolds2 (k v:Int) (A:Option Addr) (n c:Nat) (w:World):(nilAhead 318 173 (.agg #[.int .i64 k,.slice A n c,.int .i64 v]) "loop.example/gridpuzzles/impl.holdsWith").run Tryz.prog w=.ok (some false) w:=by kernel_rfl
theorem nHolds3 (k v:Int) (A:Option Addr) (n c:Nat) (w:World):(nilAhead 318 174 (.agg #[.int .i64 k,.slice A n c,.int .i64 v]) "loop.example/gridpuzzles/impl.holdsWith").run Tryz.prog w=.ok (some false) w:=by kernel_rfl
theorem nHolds4 (k v:Int) (A:Option Addr) (n c:Nat) (w:World):(nilAhead 318 175 (.agg #[.int .i64 k,.slice A n c,.int .i64 v]) "loop.example/gridpuzzles/impl.holdsWith").run Tryz.prog w=.ok (some false) w:=by kernel_rfl
theorem nHolds5 (k v:Int) (A:Option Addr) (n c:Nat) (w:World):(nilAhead 318 176 (.agg #[.int .i64 k,.slice A n c,.int .i64 v]) "loop.example/gridpuzzles/impl.holdsWith").run Tryz.prog w=.ok (some false) w:=by kernel_rfl
set_option maxHeartbeats 2000000 in
theorem rulesHold_any (W0:World) (B0 G OB RB n L p:Nat) (s:Int) (A:Option Addr) (cap:Nat) (q:List RuleM) (ys:List Int) (X:World)
 (hrow:X.cell? ⟨RB,p,none⟩=some (.slice A q.length cap)) (hq:RdW W0 B0 X L A q) (h0:Below B0 W0 X) (hB0:B0<=W0.heap.size) (hp:p<n) (hg:Rd X X.heap.size (some ⟨G,0,none⟩) n ys) (hql:q.length<=1099511627776)
 (hv:∀ i,i<q.length->rvR s (rat q i)=true) (hin:∀ i,i<q.length->∀ j,j<(rat q i).xs.length->0<=nth (rat q i).xs j/\nth (rat q i).xs j<n) (hsm:∀ i,i<q.length->small4 (pks ys (rat q i).xs (rat q i).xs.length) (rat q i).xs.length):
 Calls Tryz.prog 151 #[sVal G OB RB n,.int .i64 p] X fun e Y=>e=.returned (.bool (holdsQ ys q))/\Below X.heap.size X Y:=by
 unfold sVal;have hx0:=sbox_new X G OB RB n 119;have hb0:Below X.heap.size X (X.alloc (.cells #[.slice (some ⟨G,0,none⟩) n n,.slice (some ⟨OB,0,none⟩) n n,.slice (some ⟨RB,0,none⟩) n n] 119)):=(Below.refl _ _).alloc (Nat.le_refl _) _
 have hs0:X.heap.size+1<=(X.alloc (.cells #[.slice (some ⟨G,0,none⟩) n n,.slice (some ⟨OB,0,none⟩) n n,.slice (some ⟨RB,0,none⟩) n n] 119)).heap.size:=by simp
 obtain ⟨z0,z1,z2⟩:=id hx0;have hrw:=cell_lt hrow;have hrow0:=(hb0.cell (p:=⟨RB,p,none⟩) hrw).trans hrow
 have hpI:(p:Int)<(n:Int):=by omega
 have HQ:=Lib.hid hq;have HG:=Lib.hid hg;have H0:=Lib.hid h0;have HV:=Lib.hid hv;have HIN:=Lib.hid hin;have HSM:=Lib.hid hsm;obtain ⟨l,hl⟩:∃ l,l=q.length:=⟨_,rfl⟩;rw [<- hl] at hrow0 hql;have Hl:=Lib.hid hl;clear hl hrow hq hg h0 hv hin hsm
 go_enter Tryz.func151,Tryz.ntmps151
 go_wp2
 go_loopw [13] (fun i wr=>∃ u:Nat,u<=l/\i=.int .i64 u/\Hid (allR (holdsR ys) q u)/\SBox wr X.heap.size G OB RB n/\Below X.heap.size X wr/\X.heap.size+1<=wr.heap.size) (fun i _=>l-(intOf i).toNat)
 case atStart=>exact ⟨0,Nat.zero_le _,rfl,Lib.hid (fun j hj=>absurd hj (by omega)),hx0,hb0,hs0⟩
 case round=>
  obtain ⟨u,hu,rfl,hall,hx,hb,hsw⟩:=hrel;obtain ⟨c0,c1,c2⟩:=id hx
  by_cases hlt:u<l
  ·have hltq:u<q.length:=by rw [<- Hl.out];exact hlt
   obtain ⟨b,rfl,hbL,hcc⟩:=HQ.out (by omega);obtain ⟨A',c',r0,r1,r2,r3,r5⟩:=hcc u hltq;have hv0:=HV.out u hltq;have hxin0:=HIN.out u hltq;have hsm0:=HSM.out u hltq;have hHR:holdsR ys (rat q u)=holdsB (rat q u).k (rat q u).v (pks ys (rat q u).xs (rat q u).xs.length):=rfl;obtain ⟨rk,hrk⟩:∃ x,x=(rat q u).k:=⟨_,rfl⟩;obtain ⟨rx,hrx⟩:∃ x,x=(rat q u).xs:=⟨_,rfl⟩;obtain ⟨rvv,hrv⟩:∃ x,x=(rat q u).v:=⟨_,rfl⟩;have hv1:rv rk rx rvv s=true:=(by rw [hrk,hrx,hrv];exact hv0);rw [<- hrk,<-hrx,<-hrv] at hHR;rw [<- hrk] at r0;rw [<- hrx] at r1 r3 r5 hxin0 hsm0;rw [<- hrv] at r2;obtain ⟨_,⟨hn1,hn4⟩,hk2,_⟩:=rv_facts rfl hv1;have hin':(u:Int)<(l:Int):=(by omega);have hbX:=cell_lt r0;have r0:=(hb.cell (p:=⟨b,u*3,none⟩) hbX).trans r0;have r1:=(hb.cell (p:=⟨b,u*3+1,none⟩) hbX).trans r1;have r2:=(hb.cell (p:=⟨b,u*3+2,none⟩) hbX).trans r2;have hy:=rbox_new wr rk A' rx.length c' rvv 84;have hb1:Below wr.heap.size wr (wr.alloc (.cells #[.int .i64 rk,.slice A' rx.length c',.int .i64 rvv] 84)):=(Below.refl _ _).alloc (Nat.le_refl _) _;obtain ⟨y0,y1,y2⟩:=id hy;have hx1:=hx.below (Nat.lt_of_lt_of_le (Nat.lt_succ_self _) hsw) hb1
   obtain ⟨d0,d1,d2⟩:=id hx1;have hbw:=hb.trans (hb1.mono hb.size);have hs1:X.heap.size<(wr.alloc (.cells #[.int .i64 rk,.slice A' rx.length c',.int .i64 rvv] 84)).heap.size:=(by simp;omega);have hs2:wr.heap.size<(wr.alloc (.cells #[.int .i64 rk,.slice A' rx.length c',.int .i64 rvv] 84)).heap.size:=(by simp);obtain ⟨W,hW⟩:∃ W,wr.alloc (.cells #[.int .i64 rk,.slice A' rx.length c',.int .i64 rvv] 84)=W:=⟨_,rfl⟩;rw [hW] at hy y0 y1 y2 hx1 d0 d1 d2 hbw hs1 hs2
   have HS:Hid (∀ w',Below W.heap.size W w'->w'.cell? ⟨wr.heap.size,0,none⟩=some (.int .i64 rk)/\w'.cell? ⟨wr.heap.size,1,none⟩=some (.slice A' rx.length c')/\w'.cell? ⟨wr.heap.size,2,none⟩=some (.int .i64 rvv)/\w'.cell? ⟨X.heap.size,0,none⟩=some (.slice (some ⟨G,0,none⟩) n n)):=
    Lib.hid (fun w' hb=>by
     obtain ⟨e0,e1,e2⟩:=hy.below hs2 hb
     exact ⟨e0,e1,e2,(hx1.below hs1 hb).1⟩)
   have HPK:=Lib.hid (fun w' (hb2:Below W.heap.size W w')=>implPick (some ⟨G,0,none⟩) n n X.heap.size ys A' c' rx.length B0 rx w' (HG.out.below (hbw.trans (hb2.mono hbw.size))) (r3.below (H0.out.trans ((hbw.trans (hb2.mono hbw.size)).mono (Nat.le_trans hB0 H0.out.size)))) (Nat.le_trans hbw.size hb2.size) (Nat.le_trans (Nat.le_trans (Nat.le_trans hB0 H0.out.size) hbw.size) hb2.size) (by omega) hxin0);have Hpl:=Lib.hid (pks_length ys rx rx.length);have Hsm:=Lib.hid hsm0;have Hk:=Lib.hid (rv_kind hv1);have Hk2:rk=1\/rk=2\/rk=3\/2<=rx.length:=hk2;obtain ⟨bb,hbb⟩:∃ bb,holdsB rk rvv (pks ys rx rx.length)=bb:=⟨_,rfl⟩
   have Hbb:=Lib.hid hbb;have Hbw:=Lib.hid hbw;have hx1':=Lib.hid hx1;have Hlt:=Lib.hid hlt;have HR:Hid (holdsR ys (rat q u)=bb):=Lib.hid (hHR.trans hbb)
   have HU:=Lib.hid (show ∀ b',bb=b'->(b'=false->holdsQ ys q=false)/\(b'=true->Hid (allR (holdsR ys) q (u+1))) from fun b' e=>⟨fun h=>not_all_rat rfl hltq (by rw [HR.out,e,h]),fun h=>Lib.hid (fun i hi=>by
    by_cases e2:i=u
    ·subst e2;rw [HR.out,e,h]
    ·exact hall.out i (by omega))⟩)
   have Hofk:=Lib.hid (fun w'=>ofKind_any A' c' rx.length rk rvv w');clear hrk hrx hrv hcc hsm0 hbb hv0 hv1 hx hb1 hHR hk2 hxin0 r3 hbX hltq hall hrow0
   rcases Hk.out with rfl|rfl|rfl|rfl|rfl
   ·have M:∀ w,(method 318 172 (.agg #[.int .i64 1,.slice A' rx.length c',.int .i64 rvv]) "loop.example/gridpuzzles/impl.holdsWith").run Tryz.prog w=.ok (212,.agg #[.int .i64 1,.slice A' rx.length c',.int .i64 rvv]) w:=fun w=>mHolds1 _ _ _ _ _ w
    have NA:∀ w,(nilAhead 318 172 (.agg #[.int .i64 1,.slice A' rx.length c',.int .i64 rvv]) "loop.example/gridpuzzles/impl.holdsWith").run Tryz.prog w=.ok (some false) w:=fun w=>nHolds1 _ _ _ _ _ w
    have h2:4<=1->2<=rx.length:=(by omega);have Hofi:ofk 1 (rval 1 A' rx.length c' rvv)=.iface 172 (.agg #[.int .i64 1,.slice A' rx.length c',.int .i64 rvv]):=rfl;rw [Hofi] at Hofk;clear Hofi
    go_wp2_with fail
    go_region_held3 (fun w'=>w'.cell? ⟨wr.heap.size,0,none⟩=some (.int .i64 1)/\w'.cell? ⟨wr.heap.size,1,none⟩=some (.slice A' rx.length c')/\w'.cell? ⟨wr.heap.size,2,none⟩=some (.int .i64 rvv)/\w'.cell? ⟨X.heap.size,0,none⟩=some (.slice (some ⟨G,0,none⟩) n n))
     (first|go_keep|exact HS.out _ h6|exact HS.out _ h3|exact HS.out _ h5)
     ((first
       |(go_simp;go_at_call 212;refine (hold1 _ _ _ _ _ _ _ _ _ _ (by first|exact ho3.rd|exact ho3.rd.below hb5') (by first|exact Nat.le_refl _|exact hb5'.size) hn4 ho3.le_cap Hsm h2).mono ?_;rw [Hbb.out];rintro e w6 ⟨rfl,hb6'⟩;have h6:Below W.heap.size W w6:=(by first|exact step h5 hb6'|exact step h3 hb6'|exact step h5.drew hb6'|exact step h3.drew hb6'))
       |(go_simp;go_at_call 166;refine (HPK.out _ (by first|exact (Below.refl _ _).drew|exact h5|exact h5.drew|exact Below.refl _ _)).mono ?_;rintro e w3 ⟨A3,c3,rfl,ho3,hb3'⟩;rw [Hpl.out] at ho3 ⊢;have h3:Below W.heap.size W w3:=(by first|exact ((Below.refl _ _).drew).trans hb3'|exact step h5 hb3'|exact step h5.drew hb3'|exact hb3'))
       |(go_simp;go_at_call 160;refine (Hofk.out _).mono ?_;rintro e w5 ⟨rfl,hb5'⟩;have h5:Below W.heap.size W w5:=(by first|exact ((Below.refl _ _).drew).trans hb5'|exact step h3 hb5'|exact step h3.drew hb5'|exact hb5'))))
    all_goals
     cases bb
     ·have HF:=Lib.hid ((HU.out false rfl).1 rfl)
      go_wp2
      go_ret
      exact ⟨by rw [HF.out];rfl,step Hbw.out h6⟩
     ·have HT:=(HU.out true rfl).2 rfl
      go_wp2
      go_roundw
      case rel=>exact ⟨u+1,Hlt.out,by go_num,HT,hx1'.out.below hs1 h6,step Hbw.out h6,Nat.le_trans hs1 h6.size⟩
      case measure=>have:=Hlt.out;simp [intOf];omega
   ·have M:∀ w,(method 318 173 (.agg #[.int .i64 2,.slice A' rx.length c',.int .i64 rvv]) "loop.example/gridpuzzles/impl.holdsWith").run Tryz.prog w=.ok (214,.agg #[.int .i64 2,.slice A' rx.length c',.int .i64 rvv]) w:=fun w=>mHolds2 _ _ _ _ _ w
    have NA:∀ w,(nilAhead 318 173 (.agg #[.int .i64 2,.slice A' rx.length c',.int .i64 rvv]) "loop.example/gridpuzzles/impl.holdsWith").run Tryz.prog w=.ok (some false) w:=fun w=>nHolds2 _ _ _ _ _ w
    have h2:4<=2->2<=rx.length:=(by omega);have Hofi:ofk 2 (rval 2 A' rx.length c' rvv)=.iface 173 (.agg #[.int .i64 2,.slice A' rx.length c',.int .i64 rvv]):=rfl;rw [Hofi] at Hofk;clear Hofi
    go_wp2_with fail
    go_region_held3 (fun w'=>w'.cell? ⟨wr.heap.size,0,none⟩=some (.int .i64 2)/\w'.cell? ⟨wr.heap.size,1,none⟩=some (.slice A' rx.length c')/\w'.cell? ⟨wr.heap.size,2,none⟩=some (.int .i64 rvv)/\w'.cell? ⟨X.heap.size,0,none⟩=some (.slice (some ⟨G,0,none⟩) n n))
     (first|go_keep|exact HS.out _ h6|exact HS.out _ h3|exact HS.out _ h5)
     ((first
       |(go_simp;go_at_call 214;refine (hold2 _ _ _ _ _ _ _ _ _ _ (by first|exact ho3.rd|exact ho3.rd.below hb5') (by first|exact Nat.le_refl _|exact hb5'.size) hn4 ho3.le_cap Hsm h2).mono ?_;rw [Hbb.out];rintro e w6 ⟨rfl,hb6'⟩;have h6:Below W.heap.size W w6:=(by first|exact step h5 hb6'|exact step h3 hb6'|exact step h5.drew hb6'|exact step h3.drew hb6'))
       |(go_simp;go_at_call 166;refine (HPK.out _ (by first|exact (Below.refl _ _).drew|exact h5|exact h5.drew|exact Below.refl _ _)).mono ?_;rintro e w3 ⟨A3,c3,rfl,ho3,hb3'⟩;rw [Hpl.out] at ho3 ⊢;have h3:Below W.heap.size W w3:=(by first|exact ((Below.refl _ _).drew).trans hb3'|exact step h5 hb3'|exact step h5.drew hb3'|exact hb3'))
       |(go_simp;go_at_call 160;refine (Hofk.out _).mono ?_;rintro e w5 ⟨rfl,hb5'⟩;have h5:Below W.heap.size W w5:=(by first|exact ((Below.refl _ _).drew).trans hb5'|exact step h3 hb5'|exact step h3.drew hb5'|exact hb5'))))
    all_goals
     cases bb
     ·have HF:=Lib.hid ((HU.out false rfl).1 rfl)
      go_wp2
      go_ret
      exact ⟨by rw [HF.out];rfl,step Hbw.out h6⟩
     ·have HT:=(HU.out true rfl).2 rfl
      go_wp2
      go_roundw
      case rel=>exact ⟨u+1,Hlt.out,by go_num,HT,hx1'.out.below hs1 h6,step Hbw.out h6,Nat.le_trans hs1 h6.size⟩
      case measure=>have:=Hlt.out;simp [intOf];omega
   ·have M:∀ w,(method 318 174 (.agg #[.int .i64 3,.slice A' rx.length c',.int .i64 rvv]) "loop.example/gridpuzzles/impl.holdsWith").run Tryz.prog w=.ok (217,.agg #[.int .i64 3,.slice A' rx.length c',.int .i64 rvv]) w:=fun w=>mHolds3 _ _ _ _ _ w
    have NA:∀ w,(nilAhead 318 174 (.agg #[.int .i64 3,.slice A' rx.length c',.int .i64 rvv]) "loop.example/gridpuzzles/impl.holdsWith").run Tryz.prog w=.ok (some false) w:=fun w=>nHolds3 _ _ _ _ _ w
    have h2:4<=3->2<=rx.length:=(by omega);have Hofi:ofk 3 (rval 3 A' rx.length c' rvv)=.iface 174 (.agg #[.int .i64 3,.slice A' rx.length c',.int .i64 rvv]):=rfl;rw [Hofi] at Hofk;clear Hofi
    go_wp2_with fail
    go_region_held3 (fun w'=>w'.cell? ⟨wr.heap.size,0,none⟩=some (.int .i64 3)/\w'.cell? ⟨wr.heap.size,1,none⟩=some (.slice A' rx.length c')/\w'.cell? ⟨wr.heap.size,2,none⟩=some (.int .i64 rvv)/\w'.cell? ⟨X.heap.size,0,none⟩=some (.slice (some ⟨G,0,none⟩) n n))
     (first|go_keep|exact HS.out _ h6|exact HS.out _ h3|exact HS.out _ h5)
     ((first
       |(go_simp;go_at_call 217;refine (hold3 _ _ _ _ _ _ _ _ _ _ (by first|exact ho3.rd|exact ho3.rd.below hb5') (by first|exact Nat.le_refl _|exact hb5'.size) hn4 ho3.le_cap Hsm h2).mono ?_;rw [Hbb.out];rintro e w6 ⟨rfl,hb6'⟩;have h6:Below W.heap.size W w6:=(by first|exact step h5 hb6'|exact step h3 hb6'|exact step h5.drew hb6'|exact step h3.drew hb6'))
       |(go_simp;go_at_call 166;refine (HPK.out _ (by first|exact (Below.refl _ _).drew|exact h5|exact h5.drew|exact Below.refl _ _)).mono ?_;rintro e w3 ⟨A3,c3,rfl,ho3,hb3'⟩;rw [Hpl.out] at ho3 ⊢;have h3:Below W.heap.size W w3:=(by first|exact ((Below.refl _ _).drew).trans hb3'|exact step h5 hb3'|exact step h5.drew hb3'|exact hb3'))
       |(go_simp;go_at_call 160;refine (Hofk.out _).mono ?_;rintro e w5 ⟨rfl,hb5'⟩;have h5:Below W.heap.size W w5:=(by first|exact ((Below.refl _ _).drew).trans hb5'|exact step h3 hb5'|exact step h3.drew hb5'|exact hb5'))))
    all_goals
     cases bb
     ·have HF:=Lib.hid ((HU.out false rfl).1 rfl)
      go_wp2
      go_ret
      exact ⟨by rw [HF.out];rfl,step Hbw.out h6⟩
     ·have HT:=(HU.out true rfl).2 rfl
      go_wp2
      go_roundw
      case rel=>exact ⟨u+1,Hlt.out,by go_num,HT,hx1'.out.below hs1 h6,step Hbw.out h6,Nat.le_trans hs1 h6.size⟩
      case measure=>have:=Hlt.out;simp [intOf];omega
   ·have M:∀ w,(method 318 175 (.agg #[.int .i64 4,.slice A' rx.length c',.int .i64 rvv]) "loop.example/gridpuzzles/impl.holdsWith").run Tryz.prog w=.ok (219,.agg #[.int .i64 4,.slice A' rx.length c',.int .i64 rvv]) w:=fun w=>mHolds4 _ _ _ _ _ w
    have NA:∀ w,(nilAhead 318 175 (.agg #[.int .i64 4,.slice A' rx.length c',.int .i64 rvv]) "loop.example/gridpuzzles/impl.holdsWith").run Tryz.prog w=.ok (some false) w:=fun w=>nHolds4 _ _ _ _ _ w
    have h2:4<=4->2<=rx.length:=(by omega);have Hofi:ofk 4 (rval 4 A' rx.length c' rvv)=.iface 175 (.agg #[.int .i64 4,.slice A' rx.length c',.int .i64 rvv]):=rfl;rw [Hofi] at Hofk;clear Hofi
    go_wp2_with fail
    go_region_held3 (fun w'=>w'.cell? ⟨wr.heap.size,0,none⟩=some (.int .i64 4)/\w'.cell? ⟨wr.heap.size,1,none⟩=some (.slice A' rx.length c')/\w'.cell? ⟨wr.heap.size,2,none⟩=some (.int .i64 rvv)/\w'.cell? ⟨X.heap.size,0,none⟩=some (.slice (some ⟨G,0,none⟩) n n))
     (first|go_keep|exact HS.out _ h6|exact HS.out _ h3|exact HS.out _ h5)
     ((first
       |(go_simp;go_at_call 219;refine (hold4 _ _ _ _ _ _ _ _ _ _ (by first|exact ho3.rd|exact ho3.rd.below hb5') (by first|exact Nat.le_refl _|exact hb5'.size) hn4 ho3.le_cap Hsm h2).mono ?_;rw [Hbb.out];rintro e w6 ⟨rfl,hb6'⟩;have h6:Below W.heap.size W w6:=(by first|exact step h5 hb6'|exact step h3 hb6'|exact step h5.drew hb6'|exact step h3.drew hb6'))
       |(go_simp;go_at_call 166;refine (HPK.out _ (by first|exact (Below.refl _ _).drew|exact h5|exact h5.drew|exact Below.refl _ _)).mono ?_;rintro e w3 ⟨A3,c3,rfl,ho3,hb3'⟩;rw [Hpl.out] at ho3 ⊢;have h3:Below W.heap.size W w3:=(by first|exact ((Below.refl _ _).drew).trans hb3'|exact step h5 hb3'|exact step h5.drew hb3'|exact hb3'))
       |(go_simp;go_at_call 160;refine (Hofk.out _).mono ?_;rintro e w5 ⟨rfl,hb5'⟩;have h5:Below W.heap.size W w5:=(by first|exact ((Below.refl _ _).drew).trans hb5'|exact step h3 hb5'|exact step h3.drew hb5'|exact hb5'))))
    all_goals
     cases bb
     ·have HF:=Lib.hid ((HU.out false rfl).1 rfl)
      go_wp2
      go_ret
      exact ⟨by rw [HF.out];rfl,step Hbw.out h6⟩
     ·have HT:=(HU.out true rfl).2 rfl
      go_wp2
      go_roundw
      case rel=>exact ⟨u+1,Hlt.out,by go_num,HT,hx1'.out.below hs1 h6,step Hbw.out h6,Nat.le_trans hs1 h6.size⟩
      case measure=>have:=Hlt.out;simp [intOf];omega
   ·have M:∀ w,(method 318 176 (.agg #[.int .i64 5,.slice A' rx.length c',.int .i64 rvv]) "loop.example/gridpuzzles/impl.holdsWith").run Tryz.prog w=.ok (221,.agg #[.int .i64 5,.slice A' rx.length c',.int .i64 rvv]) w:=fun w=>mHolds5 _ _ _ _ _ w
    have NA:∀ w,(nilAhead 318 176 (.agg #[.int .i64 5,.slice A' rx.length c',.int .i64 rvv]) "loop.example/gridpuzzles/impl.holdsWith").run Tryz.prog w=.ok (some false) w:=fun w=>nHolds5 _ _ _ _ _ w
    have h2:4<=5->2<=rx.length:=(by omega);have Hofi:ofk 5 (rval 5 A' rx.length c' rvv)=.iface 176 (.agg #[.int .i64 5,.slice A' rx.length c',.int .i64 rvv]):=rfl;rw [Hofi] at Hofk;clear Hofi
    go_wp2_with fail
    go_region_held3 (fun w'=>w'.cell? ⟨wr.heap.size,0,none⟩=some (.int .i64 5)/\w'.cell? ⟨wr.heap.size,1,none⟩=some (.slice A' rx.length c')/\w'.cell? ⟨wr.heap.size,2,none⟩=some (.int .i64 rvv)/\w'.cell? ⟨X.heap.size,0,none⟩=some (.slice (some ⟨G,0,none⟩) n n))
     (first|go_keep|exact HS.out _ h6|exact HS.out _ h3|exact HS.out _ h5)
     ((first
       |(go_simp;go_at_call 221;refine (hold5 _ _ _ _ _ _ _ _ _ _ (by first|exact ho3.rd|exact ho3.rd.below hb5') (by first|exact Nat.le_refl _|exact hb5'.size) hn4 ho3.le_cap Hsm h2).mono ?_;rw [Hbb.out];rintro e w6 ⟨rfl,hb6'⟩;have h6:Below W.heap.size W w6:=(by first|exact step h5 hb6'|exact step h3 hb6'|exact step h5.drew hb6'|exact step h3.drew hb6'))
       |(go_simp;go_at_call 166;refine (HPK.out _ (by first|exact (Below.refl _ _).drew|exact h5|exact h5.drew|exact Below.refl _ _)).mono ?_;rintro e w3 ⟨A3,c3,rfl,ho3,hb3'⟩;rw [Hpl.out] at ho3 ⊢;have h3:Below W.heap.size W w3:=(by first|exact ((Below.refl _ _).drew).trans hb3'|exact step h5 hb3'|exact step h5.drew hb3'|exact hb3'))
       |(go_simp;go_at_call 160;refine (Hofk.out _).mono ?_;rintro e w5 ⟨rfl,hb5'⟩;have h5:Below W.heap.size W w5:=(by first|exact ((Below.refl _ _).drew).trans hb5'|exact step h3 hb5'|exact step h3.drew hb5'|exact hb5'))))
    all_goals
     cases bb
     ·have HF:=Lib.hid ((HU.out false rfl).1 rfl)
      go_wp2
      go_ret
      exact ⟨by rw [HF.out];rfl,step Hbw.out h6⟩
     ·have HT:=(HU.out true rfl).2 rfl
      go_wp2
      go_roundw
      case rel=>exact ⟨u+1,Hlt.out,by go_num,HT,hx1'.out.below hs1 h6,step Hbw.out h6,Nat.le_trans hs1 h6.size⟩
      case measure=>have:=Hlt.out;simp [intOf];omega
  ·obtain rfl:u=l:=by omega
   have HL:=Lib.hid (show holdsQ ys q=true from all_rat Hl.out.symm hall.out)
   go_wp2
   go_ret
   exact ⟨by rw [HL.out];rfl,hb⟩
theorem low_idx:∀ p,p<16->IntKind.u64.wrap (((2^p:Nat):Int)*285870213051353865)/288230376151711744=((tzI.getD p 0:Nat):Int)/\tzI.getD p 0<64:=by decide +kernel
theorem tz64_any (L p:Nat) (w:World) (hL:L<2^64) (hb:L.testBit p=true) (h0:∀ j,j<p->L.testBit j=false) (hp:p<16) (hT:Tz w):
 Calls Tryz.prog 150 #[.int .u64 L] w fun e w'=>e=.returned (.int .i64 p)/\w=w':=by
 have hpos:0<L:=by
  rcases Nat.eq_zero_or_pos L with h|h
  ·rw [h,Nat.zero_testBit] at hb;cases hb
  ·exact h
 obtain ⟨k1,k2⟩:=low_idx p hp;refine tz64_core L p (tzI.getD p 0) w (by simp;omega) ?_ k2 (by omega) (hT p hp)
 have e:IntKind.u64.wrap (-(L:Int))=((2^64-L:Nat):Int):=by
  rw [IntKind.wrap_u64];omega
 rw [e,bits_and_u64_nat L (2^64-L) (by omega) (by omega),low_and hL hb h0 (by omega)];exact k1
theorem pow_u64 {a:Nat} (h:a<64):IntKind.u64.wrap ((2:Int)^a)=((2^a:Nat):Int):=by
 have:2^a<2^64:=Nat.pow_lt_pow_right (by omega) h;rw [IntKind.wrap_u64,pow_int]
 generalize 2^a=p at*
 omega
theorem items_core (S:Int) (r q c v a b:Nat) (w:World) (hS:S=2\/S=3\/S=4) (hr:(c:Int)/S=r) (hq:S+(c:Int)%S=q) (ha:(S+r)*S+v-1=a) (hb:(S+q)*S+v-1=b) (hc:c<16) (ha48:a<48) (hb48:b<48) (hr8:r<8) (hq8:q<8) (hv:v<=4):
 Calls Tryz.prog 148 #[.int .i64 S,.int .i64 c,.int .i64 v] w fun e w'=>e=.returned (.int .u64 ((2^c|||2^a|||2^b:Nat):Int))/\Below w.heap.size w w':=by
 have pc:2^c<2^64:=Nat.pow_lt_pow_right (by omega) (by omega);have pa:2^a<2^64:=Nat.pow_lt_pow_right (by omega) (by omega);have pb:2^b<2^64:=Nat.pow_lt_pow_right (by omega) (by omega);have o1:=Lib.hid (bits_or_u64_nat (2^c) (2^a) (by omega) (by omega));have o2:=Lib.hid (bits_or_u64_nat (2^c|||2^a) (2^b) (by have:=Nat.or_lt_two_pow pc pa;omega) (by omega));have Pc:=Lib.hid (pow_u64 (a:=c) (by omega));have Pa:=Lib.hid (pow_u64 (a:=a) (by omega));have Pb:=Lib.hid (pow_u64 (a:=b) (by omega));have HL:=Lib.hid (linesThrough_rc S c r q w (by omega) (by omega) hc hr hq)
 clear pc pa pb hr hq
 rcases hS with rfl|rfl|rfl
 all_goals
  have Ha:=Lib.hid ha;have Hb:=Lib.hid hb;have ea:IntKind.i64.wrap ((a:Int))=a:=IntWalk.i64_in _ (by omega);clear ha hb
  go_enter Tryz.func148,Tryz.ntmps148
  go_wp2_with (go_at_call 165;refine HL.out.mono ?_;rintro e w1 ⟨rfl,hb1⟩)
  rw [Ha.out,Hb.out]
  go_quiet (fail)
  go_wp2
  go_ret
  refine ⟨?_,below_drewN hb1 _⟩
  show Ending.returned (.int .u64 (bits .or .u64 (bits .or .u64 (IntKind.u64.wrap (2^c)) (IntKind.u64.wrap (2^a))) (IntKind.u64.wrap (2^b))))=_
  rw [Pc.out,Pa.out,Pb.out,o1.out,o2.out]
theorem itemsOf_any (s c v:Nat) (w:World) (hs:s∈[2,3,4]) (hc:c<s*s) (v1:1<=v) (v2:v<=s):
 Calls Tryz.prog 148 #[.int .i64 s,.int .i64 c,.int .i64 v] w fun e w'=>e=.returned (.int .u64 ((itN s c v:Nat):Int))/\Below w.heap.size w w':=by
 refine items_core s (c/s) (s+c%s) c v ((s+c/s)*s+v-1) ((s+(s+c%s))*s+v-1) w ?_ (by simp) (by simp) ?_ ?_ ?_ ?_ ?_ ?_ ?_ ?_
 all_goals
  simp only [List.mem_cons,List.not_mem_nil,or_false] at hs
  rcases hs with rfl|rfl|rfl<;>omega
theorem allItems_any (s:Nat) (w:World) (hs:s∈[2,3,4]):
 Calls Tryz.prog 113 #[.int .i64 s] w fun e w'=>e=.returned (.int .u64 ((2^(3*s*s)-1:Nat):Int))/\w=w':=by
 simp only [List.mem_cons,List.not_mem_nil,or_false] at hs
 rcases hs with rfl|rfl|rfl
 all_goals
  go_enter Tryz.func113,Tryz.ntmps113
  go_wp2
  go_ret
  exact ⟨by kernel_rfl,rfl⟩
theorem max_any (A:Option Addr) (n c B:Nat) (xs:List Int) (w:World) (h:Rd w B A n xs) (hn:0<n) (hm:n<=1099511627776) (hx:∀ i,i<n->0<=nth xs i/\nth xs i<16):
 Calls Tryz.prog 149 #[.slice A n c] w fun e w'=>e=.returned (.int .i64 ((lastN xs n:Nat):Int))/\w=w':=by
 obtain ⟨b,off,rfl,_,hc0⟩:=h.at_ hn
 have hnI:¬ (n:Int)<1:=by omega
 have HX:=Lib.hid hx
 have hlast:∀ u,u<=n->lastN xs u<16:=by
  intro u
  induction u with
  |zero=>intro _;simp [lastN]
  |succ u ih=>
   intro hu;have:=ih (by omega);have:=hx u (by omega);simp only [lastN];omega
 have HLt:=Lib.hid hlast
 have h1:nth xs 0=((lastN xs 1:Nat):Int):=by
  have:=hx 0 hn;simp only [lastN];omega
 rw [h1,Nat.add_zero] at hc0;clear hx h1 hlast
 go_enter Tryz.func149,Tryz.ntmps149
 go_wp2
 go_loopw [3,4] (fun m i wr=>∃ u:Nat,1<=u/\u<=n/\i=.int .i64 u/\m=.int .i64 (lastN xs u:Nat)/\wr=w) (fun _ i _=>n-(intOf i).toNat)
 case atStart=>exact ⟨1,Nat.le_refl _,hn,rfl,rfl,rfl⟩
 case round=>
  obtain ⟨u,hu1,hu,rfl,rfl,rfl⟩:=hrel
  by_cases hlt:u<n
  ·obtain ⟨b',off',e,_,hck⟩:=h.at_ hlt;cases e;have hltI:(u:Int)<(n:Int):=(by omega);obtain ⟨x0,x1⟩:=HX.out u hlt;have hl16:=HLt.out u hu;have Hst:=Lib.hid (show (if ((lastN xs u:Nat):Int)<nth xs u then nth xs u else ((lastN xs u:Nat):Int))=((lastN xs (u+1):Nat):Int) by simp only [lastN];split<;>omega)
   go_wp2
   go_roundw
   case rel=>exact ⟨u+1,by omega,by omega,by go_num,by rw [<- Hst.out],trivial⟩
   case measure=>simp [intOf];omega
  ·obtain rfl:u=n:=by omega
   go_wp2
   go_ret
   exact ⟨rfl,rfl⟩
theorem opt_in {s:Nat} {gi:List Int} {c:Nat} (hok:0<=nth gi c/\nth gi c<=(s:Int)) {v:Int} (h:v∈optL s gi c):∃ u:Nat,v=(u:Int)/\1<=u/\u<=s:=by
 obtain ⟨t,e,t1,t4,hb⟩:=bits_iff.1 h;refine ⟨t,e,t1,?_⟩;unfold candN at hb
 split at hb
 ·next h0=>
  rw [Nat.testBit_two_pow,decide_eq_true_eq] at hb;omega
 ·rw [Int.toNat_natCast] at hb;exact ((candTo_test gi s c t s).1 hb).2.1
theorem nth_mem {xs:List Int} {k:Nat} (h:k<xs.length):nth xs k∈xs:=by
 have:nth xs k=xs[k]:=by simp [nth,List.getD_eq_getElem?_getD,h]
 rw [this];exact List.getElem_mem h
theorem holdsQ_is {rs:List RuleM} {us:List Int} {p:Nat}:holdsQ us (rulesAt rs p)=rlOk rs us p:=by
 unfold holdsQ rlOk;rw [Bool.eq_iff_iff,List.all_eq_true,List.all_eq_true]
 constructor
 ·intro h r hr;obtain ⟨i,hi,rfl⟩:=rat_mem hr;exact h i (List.mem_range.2 hi)
 ·intro h i hi;rw [List.mem_range] at hi;refine h _ ?_
  have:rat (rulesAt rs p) i=(rulesAt rs p)[i]:=by simp [rat,List.getD_eq_getElem?_getD,hi]
  rw [this];exact List.getElem_mem hi
theorem at_ok {s:Nat} {rs:List RuleM} {p:Nat} (hr:∀ i,i<rs.length->rvR s (rat rs i)=true) {i:Nat} (hi:i<(rulesAt rs p).length):rvR s (rat (rulesAt rs p) i)=true/\∀ j,j<(rat (rulesAt rs p) i).xs.length->0<=nth (rat (rulesAt rs p) i).xs j/\(nth (rat (rulesAt rs p) i).xs j).toNat<=p:=by
 have hm:rat (rulesAt rs p) i∈rulesAt rs p:=by
  have:rat (rulesAt rs p) i=(rulesAt rs p)[i]:=by simp [rat,List.getD_eq_getElem?_getD,hi]
  rw [this];exact List.getElem_mem hi
 obtain ⟨h1,h2⟩:=List.mem_filter.1 hm;rw [beq_iff_eq] at h2;obtain ⟨k,hk,e⟩:=rat_mem h1;have hv:=hr k hk;rw [e] at hv;refine ⟨hv,fun j hj=>⟨((rv_cells hv).2 j hj).1,?_⟩⟩;have:=lastN_ge (xs:=(rat (rulesAt rs p) i).xs) hj;unfold lastR at h2;omega
theorem holdsQ_congr {q:List RuleM} {us ys:List Int} {p:Nat} (h:∀ i,i<=p->nth us i=nth ys i) (hq:∀ i,i<q.length->∀ j,j<(rat q i).xs.length->(nth (rat q i).xs j).toNat<=p):holdsQ us q=holdsQ ys q:=by
 unfold holdsQ;rw [Bool.eq_iff_iff,List.all_eq_true,List.all_eq_true]
 have key:∀ i,i<q.length->holdsR us (rat q i)=holdsR ys (rat q i):=fun i hi=>by
  unfold holdsR
  have:pks us (rat q i).xs (rat q i).xs.length=pks ys (rat q i).xs (rat q i).xs.length:=by
   apply ext_nth (by rw [pks_length,pks_length])
   intro k hk;rw [pks_length] at hk;rw [pks_nth hk,pks_nth hk];exact h _ (hq i hi k hk)
  rw [this]
 constructor
 ·intro H i hi;rw [<- key i (List.mem_range.1 hi)];exact H i hi
 ·intro H i hi;rw [key i (List.mem_range.1 hi)];exact H i hi
theorem take_flat {L:List Int} {F:Int->List (List Int)} {u:Nat} (h:u<L.length):(L.take (u+1)).flatMap F=(L.take u).flatMap F++F (nth L u):=by
 rw [List.take_add_one,List.getElem?_eq_getElem h,List.flatMap_append]
 simp [nth,List.getD_eq_getElem?_getD,h]
def CovPost (J:List (List Int)->World->Prop) (Jx:World->Prop) (M lo G n:Nat) (vs:List Int) (X:World) (ways:List (List Int)) (e:Ending) (Y:World):Prop:=
 (e=.returned (.bool true)/\J ways Y/\MidX M G X Y/\∃ ys,Ow Y lo (some ⟨G,0,none⟩) n n ys/\∀ i,i<vs.length->nth ys i=nth vs i)\/(e=.returned (.bool false)/\Jx Y)
theorem SBox.midx {w w':World} {M g G0 G OB RB n:Nat} (h:SBox w g G OB RB n) (hm:MidX M G0 w w') (h1:M<=g) (h2:g≠G0):SBox w' g G OB RB n:=
 ⟨hm.cell h.1 h1 h2,hm.cell h.2.1 h1 h2,hm.cell h.2.2 h1 h2⟩
theorem own_cells {w:World} {lo sz k cap:Nat} {t:TypeId} {A:Option Addr} {vs:List Value} (h:w.ownsRow lo t sz (.slice A k cap) k vs) (hk:0<k):∃ g,A=some ⟨g,0,none⟩/\lo<=g/\g<w.heap.size/\∀ j u,vs[j]? =some u->w.cell? ⟨g,j,none⟩=some u:=by
 obtain ⟨hvl,hcase⟩:=id h
 rcases hcase with ⟨_,h0⟩|⟨g,cap',cur,hv,hlog,hrow,h1,h2,h3,h4⟩
 ·omega
 ·injection hv with hA _ _
  subst hA;refine ⟨g,rfl,hlog,(Array.getElem?_eq_some_iff.1 hrow).1,fun j u hj=>?_⟩;rw [cell_of_row w g j cur _ _ hrow];rw [<- h4,List.getElem?_take] at hj
  split at hj
  ·simpa using hj
  ·cases hj
theorem own_kept {w w':World} {lo sz k:Nat} {t:TypeId} {v:Value} {vs:List Value} {row:Option Nat} (h:w.ownsRow lo t sz v k vs) (hg:w.grownBy w' row) (hne:∀ g,v.ownBlock=some g->row≠some g):w'.ownsRow lo t sz v k vs:=by
 refine World.ownsRow.kept h hg ?_
 cases e:v.ownBlock with
 |none=>exact .inl rfl
 |some g=>exact .inr (fun he=>hne g e he.symm)
theorem own_below {w w':World} {lo sz k:Nat} {t:TypeId} {v:Value} {vs:List Value} (h:w.ownsRow lo t sz v k vs) (hb:Below w.heap.size w w'):w'.ownsRow lo t sz v k vs:=
 own_kept (row:=none) h ⟨hb.os,hb.tape,hb.output,hb.size,fun k hk _=>hb.block k hk⟩ (fun g _ e=>by cases e)
def PsG (SB f OB c n:Nat) (A:Option Addr) (t cap:Nat) (cells:Array Value) (elT:TypeId) (sz lo:Nat) (vs:List Value) (B:Nat):Nat->Value->World->Prop
 |0,v,_=>v=.pointer (some ⟨SB,f,none⟩)
 |1,v,_=>v=.slice (some ⟨OB,0,none⟩) n n
 |2,v,_=>v=.int .i64 (c:Nat)
 |3,v,_=>v=.pointer (some ⟨SB,f,none⟩)
 |4,v,_=>v=.slice (some ⟨OB,0,none⟩) n n
 |5,v,_=>v=.int .i64 (c:Nat)
 |6,v,_=>v=.pointer (some ⟨OB,c,none⟩)
 |7,v,_=>v=.slice A t cap
 |8,v,_=>v=.agg cells
 |9,v,w=>∃ g,v=.slice (some ⟨g,0,none⟩) 1 1/\w.heap[g]? =some (.cells cells elT)/\(Value.slice A t cap).ownBlock≠some g
 |10,v,w=>∃ g' cap',v=.slice (some ⟨g',0,none⟩) (t+1) cap'/\w.ownsRow lo elT sz (.slice (some ⟨g',0,none⟩) (t+1) cap') (t+1) (vs++cells.toList)/\((Value.slice A t cap).ownBlock=some g'\/B<=g')
 |11,v,_=>v=.pointer (some ⟨OB,c,none⟩)
 |_,_,_=>True
theorem psG_eff {SB f OB c n:Nat} {A:Option Addr} {t cap:Nat} {cells:Array Value} {elT:TypeId} {sz lo:Nat} {vs:List Value} {B:Nat} (j i:Nat) (v:Value) (w1 w2:World) (hji:j≠i) (he:(i=10->w1.grownBy w2 (Value.slice A t cap).ownBlock)/\(i≠10->Below w1.heap.size w1 w2)) (h:PsG SB f OB c n A t cap cells elT sz lo vs B j v w1):PsG SB f OB c n A t cap cells elT sz lo vs B j v w2:=by
 unfold PsG at h ⊢
 split at h
 all_goals first
  |exact h
  |(obtain ⟨g,e,h1,h2⟩:=h
    refine ⟨g,e,?_,h2⟩
    by_cases hi:i=10
    ·exact ((he.1 hi).block g (Array.getElem?_eq_some_iff.1 h1).1 (fun e2=>h2 e2.symm)).trans h1
    ·exact ((he.2 hi).block g (Array.getElem?_eq_some_iff.1 h1).1).trans h1)
  |(obtain ⟨g',cap',e,h1,h2⟩:=h
    exact ⟨g',cap',e,own_below h1 (he.2 (fun e2=>hji e2.symm)),h2⟩)
theorem flat2_get {α β:Type} (f:α->β×β):∀ (L:List α) (i:Nat) (hi:i<L.length),(L.flatMap fun x=>[(f x).1,(f x).2])[i*2]? =some (f L[i]).1/\(L.flatMap fun x=>[(f x).1,(f x).2])[i*2+1]? =some (f L[i]).2:=by
 intro L
 induction L with
 |nil=>intro i hi;cases hi
 |cons a L ih=>
  intro i hi
  match i,hi with
  |0,_=>simp
  |i+1,hi=>
   have:=ih i (by simpa using hi);simp only [List.flatMap_cons,List.cons_append,List.nil_append,show (i+1)*2=i*2+2 by omega,show i*2+2+1=(i*2+1)+2 by omega,List.getElem?_cons_succ,List.getElem_cons_succ];exact this
theorem flat3_get {α β:Type} (f:α->β×β×β):∀ (L:List α) (i:Nat) (hi:i<L.length),(L.flatMap fun x=>[(f x).1,(f x).2.1,(f x).2.2])[i*3]? =some (f L[i]).1/\(L.flatMap fun x=>[(f x).1,(f x).2.1,(f x).2.2])[i*3+1]? =some (f L[i]).2.1/\(L.flatMap fun x=>[(f x).1,(f x).2.1,(f x).2.2])[i*3+2]? =some (f L[i]).2.2:=by
 intro L
 induction L with
 |nil=>intro i hi;cases hi
 |cons a L ih=>
  intro i hi
  match i,hi with
  |0,_=>simp
  |i+1,hi=>
   have:=ih i (by simpa using hi);simp only [List.flatMap_cons,List.cons_append,List.nil_append,show (i+1)*3=i*3+3 by omega,show i*3+3+1=(i*3+1)+3 by omega,show i*3+3+2=(i*3+2)+3 by omega,List.getElem?_cons_succ,List.getElem_cons_succ];exact this
def optP (s c:Nat) (x:Int):Value×Value:=(.int .i64 x,.int .u64 ((itN s c x.toNat:Nat):Int))
def optV (s c:Nat) (vs:List Int):List Value:=vs.flatMap fun x=>[(optP s c x).1,(optP s c x).2]
theorem optV_push (s c:Nat) (vs:List Int) (x:Int):optV s c (vs++[x])=optV s c vs++[.int .i64 x,.int .u64 ((itN s c x.toNat:Nat):Int)]:=by
 simp [optV,optP]
def rulP (RA:Nat->Option Addr) (RC:Nat->Nat) (rs:List RuleM) (i:Nat):Value×Value×Value:=(.int .i64 (rat rs i).k,.slice (RA i) (rat rs i).xs.length (RC i),.int .i64 (rat rs i).v)
def rulV (RA:Nat->Option Addr) (RC:Nat->Nat) (rs:List RuleM) (L:List Nat):List Value:=L.flatMap fun i=>[(rulP RA RC rs i).1,(rulP RA RC rs i).2.1,(rulP RA RC rs i).2.2]
theorem rulV_push (RA:Nat->Option Addr) (RC:Nat->Nat) (rs:List RuleM) (L:List Nat) (i:Nat):rulV RA RC rs (L++[i])=rulV RA RC rs L++[.int .i64 (rat rs i).k,.slice (RA i) (rat rs i).xs.length (RC i),.int .i64 (rat rs i).v]:=by
 simp [rulV,rulP]
def ixR (rs:List RuleM) (c r:Nat):List Nat:=(List.range r).filter fun i=>lastR (rat rs i)==c
theorem ixR_succ (rs:List RuleM) (c r:Nat):ixR rs c (r+1)=ixR rs c r++(if lastR (rat rs r)=c then [r] else []):=by
 unfold ixR;rw [List.range_succ,List.filter_append]
 congr 1
 by_cases h:lastR (rat rs r)=c
 ·rw [if_pos h];simp [h]
 ·rw [if_neg h];simp [h]
theorem rulesAt_ix (rs:List RuleM) (c:Nat):rulesAt rs c=(ixR rs c rs.length).map (rat rs):=by
 unfold rulesAt ixR
 have key:rs=(List.range rs.length).map (rat rs):=by
  apply List.ext_getElem
  ·simp
  ·intro i h1 h2
   simp [rat,List.getD_eq_getElem?_getD,h1]
 conv=>lhs;rw [key]
 rw [List.filter_map];rfl
def rowsArr (R:Nat->Value) (n:Nat):Array Value:=((List.range n).map R).toArray
theorem rowsArr_size (R:Nat->Value) (n:Nat):(rowsArr R n).size=n:=by simp [rowsArr]
theorem rowsArr_get {R:Nat->Value} {n c:Nat} (h:c<n):(rowsArr R n)[c]? =some (R c):=by simp [rowsArr,h]
def updR (R:Nat->Value) (c:Nat) (v:Value):Nat->Value:=fun j=>if j=c then v else R j
theorem rowsArr_set (R:Nat->Value) (n c:Nat) (v:Value):(rowsArr R n).setIfInBounds c v=rowsArr (updR R c v) n:=by
 apply Array.ext_getElem?
 intro i;rw [Array.getElem?_setIfInBounds]
 by_cases hi:i<n
 ·rw [rowsArr_get hi,rowsArr_get hi,rowsArr_size];unfold updR
  by_cases e:c=i
  ·subst e;rw [if_pos rfl,if_pos hi,if_pos rfl]
  ·rw [if_neg e,if_neg (fun e'=>e e'.symm)]
 ·rw [Array.getElem?_eq_none (by rw [rowsArr_size];omega),Array.getElem?_eq_none (by rw [rowsArr_size];omega)]
  split
  ·rename_i e;rw [rowsArr_size,if_neg (by omega)]
  ·rfl
def Arr (w:World) (g:Nat) (t:TypeId) (R:Nat->Value) (n:Nat):Prop:=w.heap[g]? =some (.cells (rowsArr R n) t)
theorem Arr.lt {w:World} {g n:Nat} {t:TypeId} {R:Nat->Value} (h:Arr w g t R n):g<w.heap.size:=(Array.getElem?_eq_some_iff.1 h).1
theorem Arr.cell {w:World} {g n c:Nat} {t:TypeId} {R:Nat->Value} (h:Arr w g t R n) (hc:c<n):w.cell? ⟨g,c,none⟩=some (R c):=(cell_of_row w g c _ _ _ h).trans (rowsArr_get hc)
theorem Arr.free {w:World} {g n:Nat} {t:TypeId} {R:Nat->Value} (h:Arr w g t R n) (c:Nat):w.frozen? ⟨g,c,none⟩=false:=frozen_of_row w g c _ _ h
theorem Arr.set {w:World} {g n:Nat} {t:TypeId} {R:Nat->Value} (h:Arr w g t R n) (c:Nat) (v:Value):Arr (w.setCell ⟨g,c,none⟩ v) g t (updR R c v) n:=by
 unfold Arr;rw [heap_setCell_same w g c _ _ _ h,rowsArr_set]
theorem Arr.kept {w w':World} {g n:Nat} {t:TypeId} {R:Nat->Value} (h:Arr w g t R n) (e:w'.heap[g]? =w.heap[g]?):Arr w' g t R n:=e.trans h
theorem nils_arr (n:Nat):madeCells #[Value.slice none 0 0] n=rowsArr (fun _=>.slice none 0 0) n:=by
 apply Array.toList_inj.1
 rw [toList_madeCells_one]
 simp [rowsArr]
 apply List.ext_getElem<;>simp
theorem rdo_own {w:World} {lo L s c cap:Nat} {A:Option Addr} {vs:List Int} (h:w.ownsRow lo 155 2 (.slice A vs.length cap) vs.length (optV s c vs)) (hL:L<=lo):RdO w L A s c vs:=fun hn=>by
 obtain ⟨g,rfl,hg,_,hc⟩:=own_cells h hn;refine ⟨g,rfl,by omega,fun i hi=>?_⟩;obtain ⟨f1,f2⟩:=flat2_get (optP s c) vs i hi
 have e:nth vs i=vs[i]:=by simp [nth,List.getD_eq_getElem?_getD,hi]
 rw [e];exact ⟨hc _ _ f1,hc _ _ f2⟩
theorem rdw_own {W0 w:World} {B0 lo L k cap c:Nat} {A:Option Addr} {RA:Nat->Option Addr} {RC:Nat->Nat} {rs:List RuleM} (h:w.ownsRow lo 84 3 (.slice A k cap) k (rulV RA RC rs (ixR rs c rs.length))) (hk:k=(ixR rs c rs.length).length) (hL:L<=lo)
 (hR:∀ i,i<rs.length->Rd W0 B0 (RA i) (rat rs i).xs.length (rat rs i).xs/\(rat rs i).xs.length<=RC i):RdW W0 B0 w L A (rulesAt rs c):=fun hn=>by
 have hlen:(rulesAt rs c).length=(ixR rs c rs.length).length:=by rw [rulesAt_ix,List.length_map]
 obtain ⟨g,rfl,hg,_,hc⟩:=own_cells h (by omega);refine ⟨g,rfl,by omega,fun i hi=>?_⟩
 have hi':i<(ixR rs c rs.length).length:=by omega
 obtain ⟨f1,f2,f3⟩:=flat3_get (rulP RA RC rs) (ixR rs c rs.length) i hi'
 have e:rat (rulesAt rs c) i=rat rs (ixR rs c rs.length)[i]:=by
  rw [rulesAt_ix]
  show ((ixR rs c rs.length).map (rat rs)).getD i rnone=_
  rw [List.getD_eq_getElem?_getD,List.getElem?_map,List.getElem?_eq_getElem hi'];rfl
 have hm:(ixR rs c rs.length)[i]<rs.length:=by
  have:=List.getElem_mem hi';exact List.mem_range.1 (List.mem_filter.1 this).1
 rw [e];obtain ⟨r1,r2⟩:=hR _ hm;exact ⟨_,_,hc _ _ f1,hc _ _ f2,hc _ _ f3,r1,r2⟩
theorem ow_row {w:World} {lo g n:Nat} (h:w.heap[g]? =some (.cells (zeroArr n) 3)) (hlo:lo<=g) (hn:n<=1099511627776):Ow w lo (some ⟨g,0,none⟩) n n (zeros n):=by
 have hz:(zeroArr n).toList=vals (zeros n):=by
  rw [zeroArr,toList_madeCells_one]
  simp [vals,zeros]
 have hsz:(zeroArr n).size=n:=by simp [zeroArr,madeCells]
 refine ⟨by simp [vals,zeros],.inr ⟨g,n,zeroArr n,rfl,hlo,h,?_,?_,?_,?_⟩⟩
 all_goals first|(simp only [maxLen];omega)|(rw [hsz];omega)|(rw [hz,Nat.mul_one,List.take_of_length_le (by simp [vals,zeros])])|omega
theorem rdrc_fun {W:World} {B n:Nat} {A:Option Addr} {rs:List RuleM} (h:RdRc W B A n rs):∃ (b off:Nat) (RA:Nat->Option Addr) (RC:Nat->Nat),(0<n->A=some ⟨b,off,none⟩/\b<B)/\∀ i,i<n->W.cell? ⟨b,off+i*3,none⟩=some (.int .i64 (rat rs i).k)/\W.cell? ⟨b,off+i*3+1,none⟩=some (.slice (RA i) (rat rs i).xs.length (RC i))/\W.cell? ⟨b,off+i*3+2,none⟩=some (.int .i64 (rat rs i).v)/\Rd W B (RA i) (rat rs i).xs.length (rat rs i).xs/\(rat rs i).xs.length<=RC i:=by
 by_cases h0:0<n
 ·obtain ⟨b,off,e,hlt,hc⟩:=h.2 h0
  have key:∀ i,∃ q:Option Addr×Nat,i<n->W.cell? ⟨b,off+i*3,none⟩=some (.int .i64 (rat rs i).k)/\W.cell? ⟨b,off+i*3+1,none⟩=some (.slice q.1 (rat rs i).xs.length q.2)/\W.cell? ⟨b,off+i*3+2,none⟩=some (.int .i64 (rat rs i).v)/\Rd W B q.1 (rat rs i).xs.length (rat rs i).xs/\(rat rs i).xs.length<=q.2:=fun i=>by
   by_cases hi:i<n
   ·obtain ⟨A',c',a0,a1,a2,a3,_,a5⟩:=hc i hi;exact ⟨(A',c'),fun _=>⟨a0,a1,a2,a3,a5⟩⟩
   ·exact ⟨(none,0),fun h=>absurd h hi⟩
  obtain ⟨f,hf⟩:=Classical.axiomOfChoice key;exact ⟨b,off,fun i=>(f i).1,fun i=>(f i).2,fun _=>⟨e,hlt⟩,hf⟩
 ·exact ⟨0,0,fun _=>none,fun _=>0,fun h=>absurd h h0,fun i hi=>absurd hi (by omega)⟩
def bump (C:Nat->Nat) (j:Nat):Nat->Nat:=fun i=>if i=j then C i+1 else C i
def cnt (xs:List Int) (s:Nat):Nat->(Nat->Nat)
 |0=>fun _=>0
 |k+1=>bump (bump (cnt xs s k) (k/s*5+(nth xs k).toNat)) ((s+k%s)*5+(nth xs k).toNat)
theorem bump_zero (C:Nat->Nat) (a b j:Nat):bump (bump C a) b j=0↔C j=0/\j≠a/\j≠b:=by
 show (if j=b then (if j=a then C j+1 else C j)+1 else (if j=a then C j+1 else C j))=0↔_
 split<;>split<;>omega
theorem bump_le (C:Nat->Nat) (a j:Nat):bump C a j<=C j+1:=by
 unfold bump
 split<;>omega
theorem cnt_le (xs:List Int) (s k j:Nat):cnt xs s k j<=2*k:=by
 induction k with
 |zero=>simp [cnt]
 |succ k ih=>
  simp only [cnt];have h1:=bump_le (bump (cnt xs s k) (k/s*5+(nth xs k).toNat)) ((s+k%s)*5+(nth xs k).toNat) j;have h2:=bump_le (cnt xs s k) (k/s*5+(nth xs k).toNat) j;omega
theorem cnt_zero {xs:List Int} {s n:Nat} (hs4:s<=4) (hok:okAll xs s n) (l v:Nat) (hv:v<5):∀ k,k<=n->(cnt xs s k (l*5+v)=0↔∀ i,i<k->onL s l i=true->nth xs i≠(v:Int)):=by
 intro k
 induction k with
 |zero=>intro _;simp [cnt]
 |succ k ih=>
  intro hk;obtain ⟨x0,x4⟩:=hok k (by omega);simp only [cnt];rw [bump_zero,ih (by omega)]
  have hon:onL s l k=true↔(k/s=l\/s+k%s=l):=by simp [onL]
  constructor
  ·rintro ⟨h0,h1,h2⟩ i hi ho he
   by_cases e:i=k
   ·subst e
    rcases hon.1 ho with h|h
    ·exact h1 (by rw [h];omega)
    ·exact h2 (by rw [h];omega)
   ·exact h0 i (by omega) ho he
  ·intro h;refine ⟨fun i hi=>h i (by omega),fun e=>?_,fun e=>?_⟩
   ·exact h k (by omega) (hon.2 (.inl (by omega))) (by omega)
   ·exact h k (by omega) (hon.2 (.inr (by omega))) (by omega)
def freeTo (C:Nat->Nat) (r c:Nat):Nat->Nat
 |0=>0
 |v+1=>if C (r*5+(v+1))+C (c*5+(v+1))=0 then freeTo C r c v|||2^(v+1) else freeTo C r c v
theorem freeTo_lt (C:Nat->Nat) (r c v:Nat) (hv:v<=4):freeTo C r c v<32:=by
 induction v with
 |zero=>simp [freeTo]
 |succ v ih=>
  simp only [freeTo]
  split
  ·exact Nat.or_lt_two_pow (n:=5) (ih (by omega)) (Nat.pow_lt_pow_right (by omega) (by omega))
  ·exact ih (by omega)
theorem free_cand {xs:List Int} {s n k:Nat} (hs:s∈[2,3,4]) (hn:n=s*s) (hok:okAll xs s n) (hk:k<n) (hz:nth xs k=0):∀ v,v<=s->freeTo (cnt xs s n) (k/s) (s+k%s) v=candTo xs s k v:=by
 have hs4:s<=4:=by simp at hs;omega
 intro v
 induction v with
 |zero=>intro _;rfl
 |succ v ih=>
  intro hv;simp only [freeTo,candTo,Int.toNat_natCast]
  have hc:((v:Int)+1)=((v+1:Nat):Int):=by omega
  have key:cnt xs s n (k/s*5+(v+1))+cnt xs s n ((s+k%s)*5+(v+1))=0↔okTo3 xs s k ((v:Int)+1) s=true:=by
   rw [hc,ok3_adj hs (by omega),Nat.add_eq_zero_iff,cnt_zero hs4 hok _ _ (by omega) n (Nat.le_refl _),cnt_zero hs4 hok _ _ (by omega) n (Nat.le_refl _)]
   constructor
   ·rintro ⟨h1,h2⟩ i hi ha;rw [onL_adj s hs i hi k (by omega)] at ha;simp only [Bool.and_eq_true,Bool.or_eq_true] at ha
    rcases ha.2 with h|h
    ·exact h1 i (by omega) h
    ·exact h2 i (by omega) h
   ·intro h
    have side:∀ l,(l=k/s\/l=s+k%s)->∀ i,i<n->onL s l i=true->nth xs i≠((v+1:Nat):Int):=by
     intro l hl i hi ho
     by_cases e:i=k
     ·subst e;rw [hz];omega
     ·refine h i (by omega) ?_;rw [onL_adj s hs i (by omega) k (by omega)]
      rcases hl with rfl|rfl
      ·simp [ho,e]
      ·simp [ho,e]
    exact ⟨side _ (.inl rfl),side _ (.inr rfl)⟩
  rw [ih (by omega)]
  by_cases h:cnt xs s n (k/s*5+(v+1))+cnt xs s n ((s+k%s)*5+(v+1))=0
  ·rw [if_pos h,if_pos (key.1 h)]
  ·rw [if_neg h,if_neg (fun h'=>h (key.2 h'))]
theorem valuesIn_any (M:Nat) (hM:M<32) (w:World):Calls Tryz.prog 147 #[.int .i64 M] w (RetSl w (bitsTo M 4)):=by
 go_enter Tryz.func147,Tryz.ntmps147
 go_wp2
 go_loopw [3,4] (fun v i wr=>∃ u:Nat,u<=4/\i=.int .i64 ((u:Int)+1)/\OwV wr w.heap.size v (bitsTo M u)/\Below w.heap.size w wr) (fun _ i _=>(5-intOf i).toNat)
 case atStart=>exact ⟨0,by omega,rfl,⟨_,_,rfl,Ow.nil_ _ _⟩,Below.refl _ _⟩
 case round=>
  obtain ⟨u,hu,rfl,⟨A',c',rfl,ho⟩,hb⟩:=hrel;have hmb:=bitsTo_length M u
  have hkb:(bitsTo M u).length<=1099511627776:=by omega
  by_cases hlt:u<4
  ·have hstep:bitsTo M (u+1)=bitsTo M u++(if M.testBit (u+1)=true then [(u:Int)+1] else []):=rfl;have hsh:=and_pow M (u+1) hM (by omega);have htn:((u:Int)+1).toNat=u+1:=(by omega);cases hh:M.testBit (u+1)
   ·rw [hh] at hstep hsh;have Hst:=Lib.hid (show bitsTo M (u+1)=bitsTo M u by rw [hstep];simp);clear hh hstep
    go_wp2
    go_roundw
    case rel=>exact ⟨u+1,by omega,by go_num,⟨A',c',by rw [Hst.out],by rw [Hst.out];exact ho⟩,hb⟩
    case measure=>simp [intOf];omega
   ·rw [hh] at hstep hsh;have Hst:=Lib.hid (show bitsTo M (u+1)=bitsTo M u++[(u:Int)+1] by rw [hstep];simp);clear hh hstep
    go_wp2_with (at_builtin;refine push_int rfl (.tmp 14) (.tmp 16) rfl w.heap.size A' _ c' (bitsTo M u) _ rfl rfl ho hkb hb.size ?_;intro A'' c'' w1 ho1 hg1)
    have ho2:OwV w1 w.heap.size (.slice A'' ((bitsTo M u).length+1) c'') (bitsTo M (u+1)):=by
     refine ⟨A'',c'',by rw [Hst.out,List.length_append];rfl,?_⟩;rw [Hst.out,List.length_append];exact ho1
    have hb2:=push_below hb ho (Nat.le_refl _) hb.size hg1;clear ho1 hg1
    go_roundw
    case rel=>exact ⟨u+1,by omega,by go_num,ho2,hb2⟩
    case measure=>simp [intOf];omega
  ·obtain rfl:u=4:=by omega
   go_wp2
   go_ret
   exact retSl_mk ho hb
def ccells (C:Nat->Nat) (s:Int):Array Value:= #[.int .i64 (C 0),.int .i64 (C 1),.int .i64 (C 2),.int .i64 (C 3),.int .i64 (C 4),.int .i64 (C 5),.int .i64 (C 6),.int .i64 (C 7),.int .i64 (C 8),.int .i64 (C 9),.int .i64 (C 10),.int .i64 (C 11),.int .i64 (C 12),.int .i64 (C 13),.int .i64 (C 14),.int .i64 (C 15),.int .i64 (C 16),.int .i64 (C 17),.int .i64 (C 18),.int .i64 (C 19),.int .i64 (C 20),.int .i64 (C 21),.int .i64 (C 22),.int .i64 (C 23),.int .i64 (C 24),.int .i64 (C 25),.int .i64 (C 26),.int .i64 (C 27),.int .i64 (C 28),.int .i64 (C 29),.int .i64 (C 30),.int .i64 (C 31),.int .i64 (C 32),.int .i64 (C 33),.int .i64 (C 34),.int .i64 (C 35),.int .i64 (C 36),.int .i64 (C 37),.int .i64 (C 38),.int .i64 (C 39),.int .i64 s]
theorem ccells_size (C:Nat->Nat) (s:Int):(ccells C s).size=41:=rfl
theorem ccell_at (C:Nat->Nat) (s:Int):∀ {l:Nat},l<40->(ccells C s)[l]? =some (.int .i64 (C l))
 |0,_=>rfl
 |1,_=>rfl
 |2,_=>rfl
 |3,_=>rfl
 |4,_=>rfl
 |5,_=>rfl
 |6,_=>rfl
 |7,_=>rfl
 |8,_=>rfl
 |9,_=>rfl
 |10,_=>rfl
 |11,_=>rfl
 |12,_=>rfl
 |13,_=>rfl
 |14,_=>rfl
 |15,_=>rfl
 |16,_=>rfl
 |17,_=>rfl
 |18,_=>rfl
 |19,_=>rfl
 |20,_=>rfl
 |21,_=>rfl
 |22,_=>rfl
 |23,_=>rfl
 |24,_=>rfl
 |25,_=>rfl
 |26,_=>rfl
 |27,_=>rfl
 |28,_=>rfl
 |29,_=>rfl
 |30,_=>rfl
 |31,_=>rfl
 |32,_=>rfl
 |33,_=>rfl
 |34,_=>rfl
 |35,_=>rfl
 |36,_=>rfl
 |37,_=>rfl
 |38,_=>rfl
 |39,_=>rfl
 |n+40,h=>absurd h (by omega)
theorem ccells_set (C:Nat->Nat) (s:Int):∀ {l:Nat},l<40->(ccells C s).setIfInBounds l (.int .i64 ((C l+1:Nat):Int))=ccells (bump C l) s
 |0,_=>rfl
 |1,_=>rfl
 |2,_=>rfl
 |3,_=>rfl
 |4,_=>rfl
 |5,_=>rfl
 |6,_=>rfl
 |7,_=>rfl
 |8,_=>rfl
 |9,_=>rfl
 |10,_=>rfl
 |11,_=>rfl
 |12,_=>rfl
 |13,_=>rfl
 |14,_=>rfl
 |15,_=>rfl
 |16,_=>rfl
 |17,_=>rfl
 |18,_=>rfl
 |19,_=>rfl
 |20,_=>rfl
 |21,_=>rfl
 |22,_=>rfl
 |23,_=>rfl
 |24,_=>rfl
 |25,_=>rfl
 |26,_=>rfl
 |27,_=>rfl
 |28,_=>rfl
 |29,_=>rfl
 |30,_=>rfl
 |31,_=>rfl
 |32,_=>rfl
 |33,_=>rfl
 |34,_=>rfl
 |35,_=>rfl
 |36,_=>rfl
 |37,_=>rfl
 |38,_=>rfl
 |39,_=>rfl
 |n+40,h=>absurd h (by omega)
theorem cone (C:Nat->Nat) (s:Int):(ccells C s).all (·.oneCell')=true:=by simp [ccells,Value.oneCell']
def CBox (w:World) (g:Nat) (C:Nat->Nat) (s:Int):Prop:=w.heap[g]? =some (.cells (ccells C s) 180)
section
variable {w w' : World} {g : Nat} {C : Nat → Nat} {s : Int}
theorem CBox.lt (h:CBox w g C s):g<w.heap.size:=(Array.getElem?_eq_some_iff.1 h).1
theorem CBox.cell (h:CBox w g C s) {l:Nat} (hl:l<40):w.cell? ⟨g,l,none⟩=some (.int .i64 (C l)):=
 (cell_of_row _ _ l _ _ (0,0) h).trans (ccell_at C s hl)
theorem CBox.size_ (h:CBox w g C s):w.cell? ⟨g,40,none⟩=some (.int .i64 s):=
 (cell_of_row _ _ 40 _ _ (0,0) h).trans rfl
theorem CBox.frozen (h:CBox w g C s) (l:Nat):w.frozen? ⟨g,l,none⟩=false:=by
 unfold World.frozen?;rw [show w.heap[g]? =_ from h]
 simp
theorem CBox.set (h:CBox w g C s) {l:Nat} (hl:l<40):CBox (w.setCell ⟨g,l,none⟩ (.int .i64 ((C l:Int)+1))) g (bump C l) s:=by
 show CBox (w.setCell ⟨g,l,none⟩ (.int .i64 ((C l+1:Nat):Int))) g (bump C l) s
 unfold CBox;rw [heap_setCell_same w g l _ _ _ h,<-ccells_set C s hl]
theorem CBox.below {B:Nat} (h:CBox w g C s) (hg:g<B) (hb:Below B w w'):CBox w' g C s:=(hb.block g hg).trans h
theorem CBox.other {g' k:Nat} {v:Value} (h:CBox w g C s) (hne:g≠g'):CBox (w.setCell ⟨g',k,none⟩ v) g C s:=(heap_setCell_other w _ g v hne).trans h
theorem CBox.stored {C':Nat->Nat} {s':Int} (h:CBox w g C s):CBox (w.setRow g (ccells C' s')) g C' s':=setRow_heap w g _ _ _ _ h
end
theorem cinfo (C:Nat->Nat) (s:Int):(Tryz.prog.info? 180).map (·.size)=some (ccells C s).size:=by rw [ccells_size];kernel_rfl
def czero (s:Int):Array Value:= #[.int .i64 0,.int .i64 0,.int .i64 0,.int .i64 0,.int .i64 0,.int .i64 0,.int .i64 0,.int .i64 0,.int .i64 0,.int .i64 0,.int .i64 0,.int .i64 0,.int .i64 0,.int .i64 0,.int .i64 0,.int .i64 0,.int .i64 0,.int .i64 0,.int .i64 0,.int .i64 0,.int .i64 0,.int .i64 0,.int .i64 0,.int .i64 0,.int .i64 0,.int .i64 0,.int .i64 0,.int .i64 0,.int .i64 0,.int .i64 0,.int .i64 0,.int .i64 0,.int .i64 0,.int .i64 0,.int .i64 0,.int .i64 0,.int .i64 0,.int .i64 0,.int .i64 0,.int .i64 0,.int .i64 s]
theorem czero_is (s:Int):czero s=ccells (fun _=>0) s:=by
 unfold czero ccells
 simp
def cstart (A:Option Addr) (n c:Nat) (s:Int) (w:World):World:=((w.alloc (.cells #[.slice A n c,.int .i64 s] 125)).alloc (.cells (czero 0) 180)).alloc (.cells (czero 0) 180)
theorem cstart_facts (A:Option Addr) (n c:Nat) (s:Int) (w:World):CBox (cstart A n c s w) (w.heap.size+1+1) (fun _=>0) 0/\CBox (cstart A n c s w) (w.heap.size+1) (fun _=>0) 0/\(cstart A n c s w).cell? ⟨w.heap.size,0,none⟩=some (.slice A n c)/\(cstart A n c s w).cell? ⟨w.heap.size,1,none⟩=some (.int .i64 s)/\Below w.heap.size w (cstart A n c s w):=by
 unfold cstart;rw [czero_is];refine ⟨?_,?_,?_,?_,(((Below.refl _ _).alloc (Nat.le_refl _) _).alloc (by simp) _).alloc (by simp;omega) _⟩
 ·have:=heap_alloc_new ((w.alloc (Obj.cells #[Value.slice A n c,Value.int IntKind.i64 s] 125)).alloc (Obj.cells (ccells (fun _=>0) 0) 180)) (.cells (ccells (fun _=>0) 0) 180);simp only [World.size_alloc] at this;exact this
 ·have:=heap_alloc_new (w.alloc (Obj.cells #[Value.slice A n c,Value.int IntKind.i64 s] 125)) (.cells (ccells (fun _=>0) 0) 180);simp only [World.size_alloc] at this;exact (heap_alloc_old _ _ (by simp)).trans this
 ·refine (cell_of_row _ _ 0 #[.slice A n c,.int .i64 s] 125 (0,0) ?_).trans rfl;rw [heap_alloc_old _ _ (by simp;omega),heap_alloc_old _ _ (by simp)];exact heap_alloc_new w _
 ·refine (cell_of_row _ _ 1 #[.slice A n c,.int .i64 s] 125 (0,0) ?_).trans rfl;rw [heap_alloc_old _ _ (by simp;omega),heap_alloc_old _ _ (by simp)];exact heap_alloc_new w _
theorem cell_other {w:World} {g g' k j:Nat} {v:Value} (h:g≠g'):(w.setCell ⟨g',k,none⟩ v).cell? ⟨g,j,none⟩=w.cell? ⟨g,j,none⟩:=by
 unfold World.cell?;rw [heap_setCell_other w ⟨g',k,none⟩ g v h]
theorem setRow_cell {w:World} {g:Nat} {cs:Array Value} {p:Addr} (h:p.block≠g):(w.setRow g cs).cell? p=w.cell? p:=cell_setRow_other w g cs p h
theorem CBox.row_other {w:World} {g g':Nat} {cs:Array Value} {C:Nat->Nat} {s:Int} (h:CBox w g C s) (hne:g≠g'):CBox (w.setRow g' cs) g C s:=by
 unfold CBox World.setRow;simp only [Array.getElem?_modify];rw [if_neg (fun e=>hne e.symm)];exact h
theorem counted_any (A:Option Addr) (c n B s:Nat) (xs:List Int) (w:World) (h:Rd w B A n xs) (hB:B<=w.heap.size) (hs:s∈[2,3,4]) (hn:n=s*s) (hok:Hid (okAll xs s n)):
 Calls Tryz.prog 178 #[.agg #[.slice A n c,.int .i64 s]] w fun e w'=>e=.returned (.agg (ccells (cnt xs s n) s))/\Below w.heap.size w w':=by
 have hs2:2<=s:=by simp at hs;omega
 have hs4:s<=4:=by simp at hs;omega
 have hn16:n<=16:=by simp at hs;rcases hs with rfl|rfl|rfl<;>omega
 have Hn:=Lib.hid hn;clear hn;have Hi:=Lib.hid (fun C=>cinfo C s);have Hone:=Lib.hid (fun C=>cone C s);obtain ⟨hx0,hy0,hc00,hc01,hb0⟩:=cstart_facts A n c s w;have hz2:(((w.alloc (.cells #[.slice A n c,.int .i64 (s:Int)] 125)).alloc (.cells #[.int .i64 0,.int .i64 0,.int .i64 0,.int .i64 0,.int .i64 0,.int .i64 0,.int .i64 0,.int .i64 0,.int .i64 0,.int .i64 0,.int .i64 0,.int .i64 0,.int .i64 0,.int .i64 0,.int .i64 0,.int .i64 0,.int .i64 0,.int .i64 0,.int .i64 0,.int .i64 0,.int .i64 0,.int .i64 0,.int .i64 0,.int .i64 0,.int .i64 0,.int .i64 0,.int .i64 0,.int .i64 0,.int .i64 0,.int .i64 0,.int .i64 0,.int .i64 0,.int .i64 0,.int .i64 0,.int .i64 0,.int .i64 0,.int .i64 0,.int .i64 0,.int .i64 0,.int .i64 0,.int .i64 0] 180)).alloc (.cells #[.int .i64 0,.int .i64 0,.int .i64 0,.int .i64 0,.int .i64 0,.int .i64 0,.int .i64 0,.int .i64 0,.int .i64 0,.int .i64 0,.int .i64 0,.int .i64 0,.int .i64 0,.int .i64 0,.int .i64 0,.int .i64 0,.int .i64 0,.int .i64 0,.int .i64 0,.int .i64 0,.int .i64 0,.int .i64 0,.int .i64 0,.int .i64 0,.int .i64 0,.int .i64 0,.int .i64 0,.int .i64 0,.int .i64 0,.int .i64 0,.int .i64 0,.int .i64 0,.int .i64 0,.int .i64 0,.int .i64 0,.int .i64 0,.int .i64 0,.int .i64 0,.int .i64 0,.int .i64 0,.int .i64 0] 180)).heap[w.heap.size+1+1]? =some (.cells (ccells (fun _=>0) 0) 180 (0,0)):=hx0
 have Hz2:=Lib.hid hz2;clear hz2
 have key:∀ w0,(cstart A n c s w).setRow (w.heap.size+1+1) (ccells (fun _=>0) s)=w0->CBox w0 (w.heap.size+1+1) (fun _=>0) s/\CBox w0 (w.heap.size+1) (fun _=>0) 0/\w0.cell? ⟨w.heap.size,0,none⟩=some (.slice A n c)/\w0.cell? ⟨w.heap.size,1,none⟩=some (.int .i64 s)/\Below w.heap.size w w0:=by
  rintro w0 rfl;exact ⟨hx0.stored,hy0.row_other (by omega),(setRow_cell (by simp;omega)).trans hc00,(setRow_cell (by simp;omega)).trans hc01,setRow_below hb0 (by omega)⟩
 have Key:=Lib.hid key;clear key hx0 hy0 hc00 hc01 hb0
 go_enter Tryz.func178,Tryz.ntmps178
 go_wp2_with (refine wpList_store_row rfl 180 _ _ rfl (w.heap.size+1+1) (ccells (fun _=>0) s) rfl rfl 180 (ccells (fun _=>0) 0) Hz2.out (Hi.out _) rfl (Hone.out _) ?_;generalize Value.agg #[.int .i64 0,.int .i64 0,.int .i64 0,.int .i64 0,.int .i64 0,.int .i64 0,.int .i64 0,.int .i64 0,.int .i64 0,.int .i64 0,.int .i64 0,.int .i64 0,.int .i64 0,.int .i64 0,.int .i64 0,.int .i64 0,.int .i64 0,.int .i64 0,.int .i64 0,.int .i64 0,.int .i64 0,.int .i64 0,.int .i64 0,.int .i64 0,.int .i64 0,.int .i64 0,.int .i64 0,.int .i64 0,.int .i64 0,.int .i64 0,.int .i64 0,.int .i64 0,.int .i64 0,.int .i64 0,.int .i64 0,.int .i64 0,.int .i64 0,.int .i64 0,.int .i64 0,.int .i64 0,.int .i64 (s:Int)]=V;generalize hw0:World.setRow _ _ _=w0;obtain ⟨hx0,hy0,hc00,hc01,hb0⟩:=Key.out _ hw0;clear hw0)
 clear Hz2 Key
 go_loopw [14] (fun i wr=>∃ k:Nat,k<=n/\i=.int .i64 k/\Hid (CBox wr (w.heap.size+1+1) (cnt xs s k) s)/\Hid (CBox wr (w.heap.size+1) (fun _=>0) 0)/\wr.cell? ⟨w.heap.size,1,none⟩=some (.int .i64 s)/\Below w.heap.size w wr) (fun i _=>n-(intOf i).toNat)
 case atStart=>exact ⟨0,Nat.zero_le _,rfl,Lib.hid hx0,Lib.hid hy0,hc01,hb0⟩
 case round=>
  obtain ⟨k,hk,rfl,hx,hy,hc1,hB0⟩:=hrel
  by_cases hlt:k<n
  ·obtain ⟨b,off,rfl,hbB,hck⟩:=(h.below (hB0.mono hB)).at_ hlt;obtain ⟨x0,x4⟩:=hok.out k hlt;obtain ⟨v,hv⟩:=Int.eq_ofNat_of_zero_le x0;rw [hv] at hck;have hv4:v<=4:=(by omega);obtain ⟨hr8,hc8⟩:=rc_lt s hs k (by have:=Hn.out;omega);have Hr:Hid ((k:Int)/(s:Int)=((k/s:Nat):Int)):=Lib.hid (by simp);have Hc:Hid ((s:Int)+(k:Int)%(s:Int)=((s+k%s:Nat):Int)):=Lib.hid (by simp);obtain ⟨r,hr⟩:∃ r,r=k/s:=⟨_,rfl⟩;obtain ⟨q,hq⟩:∃ q,q=s+k%s:=⟨_,rfl⟩;have hstep:=Lib.hid (show cnt xs s (k+1)=bump (bump (cnt xs s k) (r*5+v)) (q*5+v) by simp only [cnt,hv,hr,hq,Int.toNat_natCast])
   rw [<- hr] at Hr hr8;rw [<- hq] at Hc hc8;have hl1:=cnt_le xs s k (r*5+v)
   have hl2:bump (cnt xs s k) (r*5+v) (q*5+v)<=2*k+1:=by
    have:=bump_le (cnt xs s k) (r*5+v) (q*5+v);have:=cnt_le xs s k (q*5+v);omega
   clear hr hq
   go_wp2_with (go_at_call 165;refine (linesThrough_rc s k r q _ (by omega) (by omega) (by omega) Hr.out Hc.out).mono ?_;rintro e w1 ⟨rfl,hb1⟩)
   have hx1:=Lib.hid (CBox.below hx.out hx.out.lt hb1);have hy1:=Lib.hid (CBox.below hy.out hy.out.lt hb1);have hB1:=step hB0 hb1;have hk1:=hx1.out.cell (l:=r*5+v) (by omega);have hf1:=hx1.out.frozen (r*5+v);have hr8':(r:Int)<8:=(by omega);have hq8':(q:Int)<8:=(by omega);have hv5':(v:Int)<5:=(by omega);have hc11:w1.cell? ⟨w.heap.size,1,none⟩=some (.int .i64 s):=(hb1.cell (p:=⟨w.heap.size,1,none⟩) (by have:=hx.out.lt;show w.heap.size<_;omega)).trans hc1
   go_region
   go_wp2
   obtain ⟨w2,hw2⟩:∃ w2,w2=(w1.setCell ⟨w.heap.size+1+1,r*5+v,none⟩ (.int .i64 ((cnt xs s k (r*5+v):Int)+1))).drew:=⟨_,rfl⟩;rw [<- hw2];have hx2:CBox w2 (w.heap.size+1+1) (bump (cnt xs s k) (r*5+v)) s:=(by rw [hw2];exact hx1.out.set (by omega));have hy2:CBox w2 (w.heap.size+1) (fun _=>0) 0:=(by rw [hw2];exact hy1.out.other (by omega));have hB2:Below w.heap.size w w2:=(by rw [hw2];exact below_drewN (hB1.setCell (by simp;omega) _) 1);have hsz2:w.heap.size<w2.heap.size:=(by have:=hx2.lt;omega);have hc2:w2.cell? ⟨w.heap.size,1,none⟩=some (.int .i64 s):=(by rw [hw2];exact (cell_other (by omega)).trans hc11)
   clear hw2 hk1 hf1;have hk2:=hx2.cell (l:=q*5+v) (by omega);have hf2:=hx2.frozen (q*5+v);have hx3:=Lib.hid (hx2.set (l:=q*5+v) (by omega));have hy3:=Lib.hid (hy2.other (k:=q*5+v) (v:=(.int .i64 ((bump (cnt xs s k) (r*5+v) (q*5+v):Int)+1))) (show w.heap.size+1≠w.heap.size+1+1 by omega));have hB3:=below_drewN (Below.setCell (p:=(⟨w.heap.size+1+1,q*5+v,none⟩:Addr)) hB2 (by simp;omega) (.int .i64 ((bump (cnt xs s k) (r*5+v) (q*5+v):Int)+1))) 1;have hc3:(w2.setCell ⟨w.heap.size+1+1,q*5+v,none⟩ (.int .i64 ((bump (cnt xs s k) (r*5+v) (q*5+v):Int)+1))).cell? ⟨w.heap.size,1,none⟩=some (.int .i64 s):=(cell_other (by omega)).trans hc2
   go_region
   go_wp2
   go_roundw
   case rel=>exact ⟨k+1,by omega,by go_num,by rw [hstep.out];exact hx3,hy3,hc3,hB3⟩
   case measure=>simp [intOf];omega
  ·obtain rfl:k=n:=by omega
   have hxf:=Lib.hid (CBox.stored (C':=cnt xs s k) (s':=s) hy.out);have hBe:=setRow_below (g:=w.heap.size+1) (cs:=ccells (cnt xs s k) s) hB0 (by omega)
   go_wp2_with (first|(refine wpList_load_row rfl 180 _ rfl (w.heap.size+1+1) rfl 180 (ccells (cnt xs s k) s) (0,0) _ hx.out Tryz.underlying180 rfl (Hi.out _) ?_)|(refine wpList_store_row rfl 180 _ _ rfl (w.heap.size+1) (ccells (cnt xs s k) s) rfl rfl 180 (ccells (fun _=>0) 0) hy.out (Hi.out _) rfl (Hone.out _) ?_))
   refine bodyPost_ret (v:=.agg (ccells (cnt xs s k) s)) (results_cell_row (by rfl) _ _ (w.heap.size+1) 180 _ (0,0) _ rfl hxf.out Tryz.underlying180 rfl (Hi.out _)) rfl ⟨rfl,hBe⟩
theorem free_any (C:Nat->Nat) (s cell r q:Nat) (w:World) (h2:2<=s) (h4:s<=4) (hr:Hid ((cell:Int)/(s:Int)=(r:Int))) (hq:Hid ((s:Int)+(cell:Int)%(s:Int)=(q:Int))) (r8:r<8) (q8:q<8) (c2:cell<16) (hC:∀ j,C j<=64):
 Calls Tryz.prog 179 #[.agg (ccells C s),.int .i64 cell] w fun e w'=>e=.returned (.int .i64 (freeTo C r q s:Int))/\Below w.heap.size w w':=by
 have hx0:CBox (w.alloc (.cells (ccells C s) 180)) w.heap.size C s:=heap_alloc_new w _;have hb0:Below w.heap.size w (w.alloc (.cells (ccells C s) 180)):=(Below.refl _ _).alloc (Nat.le_refl _) _;have hs40:=hx0.size_;have Hx0:=Lib.hid hx0;clear hx0
 go_enter Tryz.func179,Tryz.ntmps179
 go_wp2_with (go_at_call 165;refine (linesThrough_rc s cell r q _ (by omega) (by omega) c2 hr.out hq.out).mono ?_;rintro e w1 ⟨rfl,hb1⟩)
 have hx1:=Lib.hid (CBox.below Hx0.out Hx0.out.lt hb1);have hB1:=step hb0 hb1;clear hb1 hs40
 go_loopw [7,8] (fun m i wr=>∃ v:Nat,v<=s/\i=.int .i64 ((v:Int)+1)/\m=.int .i64 (freeTo C r q v:Int)/\Hid (CBox wr w.heap.size C s)/\Below w.heap.size w wr) (fun _ i _=>(s+1-intOf i).toNat)
 case atStart=>exact ⟨0,by omega,rfl,rfl,hx1,hB1⟩
 case round=>
  obtain ⟨v,hv,rfl,rfl,hx,hb⟩:=hrel;have hk40:=hx.out.size_
  by_cases hlt:v<s
  ·have hk1:=hx.out.cell (l:=r*5+(v+1)) (by omega);have hk2:=hx.out.cell (l:=q*5+(v+1)) (by omega);have e1:((v:Int)+1).toNat=v+1:=(by omega);have e2:IntKind.i64.wrap ((v:Int)+1)=(v:Int)+1:=IntWalk.i64_in _ (by omega);have e3:(0:Int)<=(v:Int)+1:=(by omega);have e4:(v:Int)+1<5:=(by omega);have r8':(r:Int)<8:=(by omega);have q8':(q:Int)<8:=(by omega);have hc1:=hC (r*5+(v+1));have hc2:=hC (q*5+(v+1));have e5:IntKind.i64.wrap ((C (r*5+(v+1)):Int)+(C (q*5+(v+1)):Int))=(C (r*5+(v+1)):Int)+(C (q*5+(v+1)):Int):=IntWalk.i64_in _ (by omega)
   have hlt32:=freeTo_lt C r q v (by omega);have hor:=or_int (freeTo C r q v) (v+1) hlt32 (by omega)
   have hstep:freeTo C r q (v+1)=if C (r*5+(v+1))+C (q*5+(v+1))=0 then freeTo C r q v|||2^(v+1) else freeTo C r q v:=rfl
   by_cases ho:C (r*5+(v+1))+C (q*5+(v+1))=0
   ·have ht:((C (r*5+(v+1)):Int)+(C (q*5+(v+1)):Int)==0)=true:=(by rw [beq_iff_eq];omega);have Hst:=Lib.hid (show freeTo C r q (v+1)=freeTo C r q v|||2^(v+1) by rw [hstep,if_pos ho]);clear hstep ho hc1 hc2
    go_wp2
    go_quiet (fail)
    go_wp2
    go_roundw
    case rel=>exact ⟨v+1,by omega,by go_num,by rw [Hst.out],Lib.hid (CBox.below hx.out hx.out.lt (below_drewN (Below.refl _ _) _)),below_drewN hb _⟩
    case measure=>simp [intOf];omega
   ·have ht:((C (r*5+(v+1)):Int)+(C (q*5+(v+1)):Int)==0)=false:=(by rw [beq_eq_false_iff_ne];omega);have Hst:=Lib.hid (show freeTo C r q (v+1)=freeTo C r q v by rw [hstep,if_neg ho]);clear hstep ho hc1 hc2
    go_wp2
    go_quiet (fail)
    go_wp2
    go_roundw
    case rel=>exact ⟨v+1,by omega,by go_num,by rw [Hst.out],Lib.hid (CBox.below hx.out hx.out.lt (below_drewN (Below.refl _ _) _)),below_drewN hb _⟩
    case measure=>simp [intOf];omega
  ·obtain rfl:v=s:=by omega
   go_wp2
   go_ret
   exact ⟨rfl,hb⟩
theorem cz_key (A:Option Addr) (n c:Nat) (s:Int) (C:Nat->Nat) (w w1:World) (hb1:Below (w.alloc (.cells #[.slice A n c,.int .i64 s] 125)).heap.size (w.alloc (.cells #[.slice A n c,.int .i64 s] 125)) w1) (w2:World)
 (h2:(w1.alloc (.cells (czero 0) 180)).setRow w1.heap.size (ccells C s)=w2):CBox w2 w1.heap.size C s/\w2.cell? ⟨w.heap.size,0,none⟩=some (.slice A n c)/\Below w.heap.size w w2/\w.heap.size<w1.heap.size/\w1.heap.size<w2.heap.size:=by
 subst h2
 have hlt:w.heap.size<w1.heap.size:=by have:=hb1.size;rw [World.size_alloc] at this;omega
 have hz:CBox (w1.alloc (.cells (czero 0) 180)) w1.heap.size (fun _=>0) 0:=by rw [czero_is];exact heap_alloc_new w1 _
 have hB1:=step ((Below.refl w.heap.size w).alloc (Nat.le_refl _) _) hb1;refine ⟨hz.stored,?_,setRow_below (hB1.alloc hB1.size _) hB1.size,hlt,by simp⟩;refine (setRow_cell (by show w.heap.size≠w1.heap.size;omega)).trans ?_;have hc:=box_cell hb1 0;refine ((((Below.refl w1.heap.size w1).alloc (Nat.le_refl _) (.cells (czero 0) 180)).cell (p:=⟨w.heap.size,0,none⟩) hlt).trans hc)
theorem candidates_any (A:Option Addr) (c n B s:Nat) (xs:List Int) (w:World) (h:Rd w B A n xs) (hB:B<=w.heap.size) (hs:s∈[2,3,4]) (hn:n=s*s) (hok:Hid (okAll xs s n)):
 Calls Tryz.prog 164 #[.agg #[.slice A n c,.int .i64 s]] w (RetSl w (mapTo (candG xs s) n)):=by
 obtain ⟨i0,hi,hz0,hz1,hz2⟩:=info_parts int_info
 have hs2:2<=s:=by simp at hs;omega
 have hs4:s<=4:=by simp at hs;omega
 have hn16:n<=16:=by simp at hs;rcases hs with rfl|rfl|rfl<;>omega
 have Hn:=Lib.hid hn;clear hn;have Hi:=Lib.hid (fun C=>cinfo C s);have Hone:=Lib.hid (fun C=>cone C s)
 have hzz:∀ u:World,(u.alloc (.cells #[.int .i64 0,.int .i64 0,.int .i64 0,.int .i64 0,.int .i64 0,.int .i64 0,.int .i64 0,.int .i64 0,.int .i64 0,.int .i64 0,.int .i64 0,.int .i64 0,.int .i64 0,.int .i64 0,.int .i64 0,.int .i64 0,.int .i64 0,.int .i64 0,.int .i64 0,.int .i64 0,.int .i64 0,.int .i64 0,.int .i64 0,.int .i64 0,.int .i64 0,.int .i64 0,.int .i64 0,.int .i64 0,.int .i64 0,.int .i64 0,.int .i64 0,.int .i64 0,.int .i64 0,.int .i64 0,.int .i64 0,.int .i64 0,.int .i64 0,.int .i64 0,.int .i64 0,.int .i64 0,.int .i64 0] 180)).heap[u.heap.size]? =some (.cells (ccells (fun _=>0) 0) 180 (0,0)):=fun u=>heap_alloc_new u _
 have Hzz:=Lib.hid hzz;clear hzz;have Key:=Lib.hid (fun w1=>cz_key A n c (s:Int) (cnt xs s n) w w1);have h1:=h.alloc hB (.cells #[.slice A n c,.int .i64 s] 125)
 have hB1:B<=(w.alloc (.cells #[.slice A n c,.int .i64 s] 125)).heap.size:=by simp;omega
 go_enter Tryz.func164,Tryz.ntmps164
 go_wp2_with (first
  |(go_at_call 178;refine (counted_any _ _ _ _ _ _ _ h1 hB1 hs Hn.out hok).mono ?_;rintro e w1 ⟨rfl,hb1⟩)
  |(refine wpList_store_row rfl 180 _ _ rfl w1.heap.size (ccells (cnt xs s n) s) rfl rfl 180 (ccells (fun _=>0) 0) (Hzz.out w1) (Hi.out _) rfl (Hone.out _) ?_;generalize hw0:World.setRow _ _ _=w2;obtain ⟨hx2,hc2,hb2,hg1,hg2⟩:=Key.out w1 hb1 w2 hw0;clear hw0 hb1)
  |(refine wpList_make_full _ rfl (.tmp 11) (.tmp 11) 23 rfl w.heap.size 3 i0 (.int .i64 0) 1 Tryz.underlying23 hi hz0 hz1 .i64 .i64 n n n rfl rfl rfl rfl (by rw [hz2];omega) (by simp only [maxLen];omega) hb2.size ?_;intro w3 hown hgr;have hc3:=(made_below hgr (Nat.le_refl _)).cell (p:=⟨w.heap.size,0,none⟩) (by show w.heap.size<w2.heap.size;omega);rw [hc2] at hc3))
 have ho3:=made_part (mapTo (candG xs s) n) hown;have hb3':=made_below hgr (Nat.le_refl _);have hx3:=Lib.hid (CBox.below hx2 hg2 hb3');have hb3:=step hb2 hb3';obtain ⟨G,hG⟩:∃ G,G=w1.heap.size:=⟨_,rfl⟩;obtain ⟨M,hM⟩:∃ M,M=w2.heap.size:=⟨_,rfl⟩;rw [<- hM] at ho3;rw [<- hG] at hx3;rw [<- hG,<-hM]
 have hne:G≠M:=by omega
 have hlo:w.heap.size<=M:=by omega
 clear hown hgr hb3' hx2 hc2 hc3 hb2 Key Hzz hz0 hz1 hz2 hi hG hM hg1 hg2
 go_loopw [16] (fun i wr=>∃ k:Nat,k<=n/\i=.int .i64 k/\Ow wr w.heap.size (some ⟨M,0,none⟩) n n (part (mapTo (candG xs s) n) k n)/\Hid (CBox wr G (cnt xs s n) s)/\Below w.heap.size w wr) (fun i _=>n-(intOf i).toNat)
 case atStart=>exact ⟨0,Nat.zero_le _,rfl,ho3,hx3,hb3⟩
 case round=>
  obtain ⟨k,hk,rfl,ho,hx,hb⟩:=hrel
  by_cases hlt:k<n
  ·obtain ⟨b,off,rfl,hbB,hck⟩:=(h.below (hb.mono hB)).at_ hlt;obtain ⟨x0,x4⟩:=hok.out k hlt;obtain ⟨v,hv⟩:=Int.eq_ofNat_of_zero_le x0;rw [hv] at hck;have hst:=(World.ownsRow.stored ho k (.int .i64 (nth (mapTo (candG xs s) n) k))).1;rw [part_set,mapTo_nth hlt] at hst;have hfill:=hst
   have hx6:∀ v:Value,Hid (CBox (wr.setCell ⟨M,k,none⟩ v) G (cnt xs s n) s):=fun v=>Lib.hid (hx.out.other hne)
   by_cases hz:v=0
   ·subst hz;obtain ⟨hr8,hc8⟩:=rc_lt s hs k (by have:=Hn.out;omega);have Hr:Hid ((k:Int)/(s:Int)=((k/s:Nat):Int)):=Lib.hid (by simp);have Hc:Hid ((s:Int)+(k:Int)%(s:Int)=((s+k%s:Nat):Int)):=Lib.hid (by simp)
    have Hg:=Lib.hid (show ((freeTo (cnt xs s n) (k/s) (s+k%s) s:Nat):Int)=candG xs s k by
     rw [free_cand hs Hn.out hok.out hlt (by rw [hv];rfl) s (Nat.le_refl _)];simp only [candG,candN,hv,Int.toNat_natCast]
     rw [if_neg (by decide)])
    have hC:∀ j,cnt xs s n j<=64:=fun j=>by have:=cnt_le xs s n j;omega
    have HC:=Lib.hid hC;clear hC hst hfill
    go_wp2_with (first
     |(refine wpList_load_row rfl 180 _ rfl G rfl 180 (ccells (cnt xs s n) s) (0,0) _ hx.out Tryz.underlying180 rfl (Hi.out _) ?_)
     |(go_at_call 179;refine (free_any (cnt xs s n) s k (k/s) (s+k%s) _ hs2 hs4 Hr Hc hr8 hc8 (by omega) HC.out).mono ?_;rintro e w4 ⟨rfl,hb4⟩;rw [Hg.out];have ho4:=ho.below hb4;obtain ⟨hold4,hfr4⟩:=ho4.cell hlt;have hx4:=Lib.hid (CBox.below hx.out hx.out.lt hb4);have hb4':=step hb hb4;have hst:=(World.ownsRow.stored ho4 k (.int .i64 (nth (mapTo (candG xs s) n) k))).1;rw [part_set,mapTo_nth hlt] at hst;have Hst:=Lib.hid hst;clear hst;have hx5:∀ v:Value,Hid (CBox (w4.setCell ⟨M,k,none⟩ v) G (cnt xs s n) s):=fun v=>Lib.hid (hx4.out.other hne);clear hb4))
    go_roundw
    case rel=>exact ⟨k+1,by omega,by go_num,Hst.out,hx5 _,hb4'.setCell (p:=(⟨M,k,none⟩:Addr)) hlo _⟩
    case measure=>simp [intOf];omega
   ·have Hg:=Lib.hid (show ((2^v:Nat):Int)=candG xs s k by
     simp only [candG,candN,hv,Int.toNat_natCast]
     rw [if_pos (by omega)])
    have hz1:((v:Int)==0)=false:=(by simp;omega);have hpw:=two_pow_nat v (by omega);have Hpw:=Lib.hid hpw;have Hfill:=Lib.hid hfill;obtain ⟨hold,hfr⟩:=ho.cell hlt;clear hpw hst hfill hz
    go_wp2
    go_roundw
    case rel=>exact ⟨k+1,by omega,by go_num,by rw [show (wrap64 (2^v))=candG xs s k from Hpw.out.trans Hg.out];exact Hfill.out,hx6 _,hb.setCell (p:=(⟨M,k,none⟩:Addr)) hlo _⟩
    case measure=>simp [intOf];omega
  ·obtain rfl:k=n:=by omega
   have hp:part (mapTo (candG xs s) k) k k=mapTo (candG xs s) k:=part_all' (mapTo_length _ _);rw [hp] at ho
   go_wp2
   go_ret
   have:=retSl_mk ho hb;exact this
theorem implCandidatesOf:ICandidatesOf:=by
 intro A c n B xs size w h hB hm;have hlen:=Lib.hid h.1;cases hg:gv xs size
 ·have HL:=Lib.hid (show candL xs size=[] by simp [candL,hg]);have h1:=h.alloc hB (.cells #[.slice A n c,.int .i64 size] 125)
  have hB1:B<=(w.alloc (.cells #[.slice A n c,.int .i64 size] 125)).heap.size:=by simp;omega
  have hB0:Below w.heap.size w (w.alloc (.cells #[.slice A n c,.int .i64 size] 125)):=(Below.refl _ _).alloc (Nat.le_refl _) _
  go_enter Tryz.func146,Tryz.ntmps146
  go_wp2_with (go_at_call 114;refine (implValid _ _ _ _ _ _ _ h1 hB1 hm).mono ?_;rintro e w1 ⟨rfl,hb1⟩;rw [hg])
  go_ret
  rw [HL.out];exact ⟨_,_,rfl,Ow.nil_ _ _,step hB0 hb1⟩
 ·obtain ⟨s,rfl,hs,hls⟩:=size_nat hg
  have hn:n=s*s:=by have:=hlen.out;omega
  have hok:=Lib.hid (gv_okAll hg hlen.out);have HL:=Lib.hid (show candL xs s=mapTo (candG xs s) n by simp [candL,hg,hlen.out]);have Hn:=Lib.hid hn;clear hn hls;have h1:=h.alloc hB (.cells #[.slice A n c,.int .i64 s] 125)
  have hB1:B<=(w.alloc (.cells #[.slice A n c,.int .i64 s] 125)).heap.size:=by simp;omega
  have hB0:Below w.heap.size w (w.alloc (.cells #[.slice A n c,.int .i64 s] 125)):=(Below.refl _ _).alloc (Nat.le_refl _) _
  go_enter Tryz.func146,Tryz.ntmps146
  go_wp2_with (first|(go_at_call 114;refine (implValid _ _ _ _ _ _ _ h1 hB1 hm).mono ?_;rintro e w1 ⟨rfl,hb1⟩;rw [hg];have hr1:=h1.below (hb1.mono hB1);have c0:=box_cell hb1 0;have c1:=box_cell hb1 1;have hB2:=step hB0 hb1;have hBw:B<=w1.heap.size:=Nat.le_trans hB hB2.size;clear hb1;simp only [List.getElem?_toArray,List.getElem?_cons_zero,List.getElem?_cons_succ] at c0 c1)|(go_at_call 164;refine (candidates_any _ _ _ _ _ _ _ hr1 hBw hs Hn.out hok).mono ?_;rintro e w2 ⟨A2,c2,rfl,ho2,hb2⟩;have hB3:=step hB2 hb2))
  go_ret
  rw [HL.out];exact ⟨_,_,rfl,ho2.mono hB2.size,hB3⟩
end Go.Proofs.YtlnmioijgclndaaGreatDoor
