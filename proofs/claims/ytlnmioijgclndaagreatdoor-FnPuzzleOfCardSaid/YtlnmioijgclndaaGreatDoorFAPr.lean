import Derived.Test.YtlnmioijgclndaaGreatDoorFATj
import Derived.Lib.SliceRun
set_option maxRecDepth 8000
namespace Go.Proofs.YtlnmioijgclndaaGreatDoor
open Go.ChangeShapes Go.WideShapes Go.ChangeAt Go.RowKit Go.Shelf
attribute [local go_sem] Oper.semAt_some
theorem waysToHold_at (A:Option Addr) (c n:Nat) (k v:Int) (Am:Option Addr) (n2 cm:Nat) (w:World) (hk:k=1\/k=2\/k=3\/k=4\/k=5):
 Calls Tryz.prog 152 #[.agg #[.int .i64 k,.slice A n c,.int .i64 v],.slice Am n2 cm] w fun e w'=>
  ∃ MB RB,e=.returned (.func (.func 167) #[] #[.pointer (some ⟨MB,0,none⟩),.pointer (some ⟨RB,0,none⟩)])/\w.heap.size<=MB/\w.heap.size<=RB/\w'.cell? ⟨MB,0,none⟩=some (.slice Am n2 cm)/\w'.cell? ⟨RB,0,none⟩=some (ofk k (rval k A n c v))/\Below w.heap.size w w':=by
 have hx0:=rbox_new w k A n c v 84;have hb0:Below w.heap.size w (w.alloc (.cells #[.int .i64 k,.slice A n c,.int .i64 v] 84)):=(Below.refl _ _).alloc (Nat.le_refl _) _
 have hs0:(w.alloc (.cells #[.int .i64 k,.slice A n c,.int .i64 v] 84)).heap.size=w.heap.size+1:=by simp
 obtain ⟨W1,hW1⟩:∃ W1,(w.alloc (.cells #[.int .i64 k,.slice A n c,.int .i64 v] 84)).alloc (.cells #[.slice Am n2 cm] 23)=W1:=⟨_,rfl⟩
 have hb1:Below w.heap.size w W1:=by rw [<- hW1];exact hb0.alloc hb0.size _
 have hs1:W1.heap.size=w.heap.size+1+1:=by rw [<- hW1];simp
 have hx1:RBox W1 w.heap.size k A n c v:=by
  rw [<- hW1];exact hx0.below (by simp) ((Below.refl _ _).alloc (Nat.le_refl _) _)
 have hm1:W1.cell? ⟨w.heap.size+1,0,none⟩=some (.slice Am n2 cm):=by
  rw [<- hW1,<-hs0];exact cell_of_row _ _ 0 _ _ (0,0) (heap_alloc_new _ _)
 obtain ⟨a0,a1,a2⟩:=id hx1;obtain ⟨x,hx⟩:∃ x,rval k A n c v=x:=⟨_,rfl⟩
 obtain ⟨T,hT⟩:∃ T,ofk k (rval k A n c v)=.iface T x:=by
  rw [hx]
  rcases hk with rfl|rfl|rfl|rfl|rfl<;>exact ⟨_,rfl⟩
 have HK:=ofKind_any A c n k v W1;rw [hT] at HK ⊢;have HK:=Lib.hid HK;clear hx hT;have Hs:=Lib.hid hs1;clear hs1 hs0 hb0
 go_enter Tryz.func152,Tryz.ntmps152
 go_wp2_with (go_at_call 160;refine HK.out.mono ?_;rintro e w3 ⟨rfl,hb3⟩;have hm3:=(hb3.cell (p:=⟨w.heap.size+1,0,none⟩) (show w.heap.size+1<_ by rw [Hs.out];omega)).trans hm1)
 go_ret
 have hb4:Below w3.heap.size w3 (w3.alloc (.cells #[.iface T x] 163)):=(Below.refl _ _).alloc (Nat.le_refl _) _;exact ⟨w.heap.size+1,w3.heap.size,rfl,Nat.le_succ _,Nat.le_trans (by rw [Hs.out];omega) hb3.size,(hb4.cell (p:=⟨w.heap.size+1,0,none⟩) (cell_lt hm3)).trans hm3,cell_of_row _ _ 0 _ _ (0,0) (heap_alloc_new _ _),step (step hb1 hb3) hb4⟩
def TbG (TB t z f y:Nat):Nat->Value->Prop
 |0,v=>v=.int .i64 t
 |1,v=>v=.int .i64 z
 |2,v=>v=.pointer (some ⟨TB,1,none⟩)
 |3,v=>v=.pointer (some ⟨TB,1+t*5,none⟩)
 |4,v=>v=.pointer (some ⟨TB,1+t*5+z,none⟩)
 |5,v=>v=.int .u64 f
 |6,v=>v=.int .u64 y
 |7,v=>v=.int .u64 (f|||y:Nat)
 |8,v=>v=.pointer (some ⟨TB,1,none⟩)
 |9,v=>v=.pointer (some ⟨TB,1+t*5,none⟩)
 |10,v=>v=.pointer (some ⟨TB,1+t*5+z,none⟩)
 |_,_=>False
set_option maxHeartbeats 2000000 in
theorem table_any (A:Option Addr) (c n:Nat) (k v:Int) (s:Nat) (w:World) (hs:s∈[2,3,4]) (n1:1<=n) (n4:n<=4)
 (hk:k=1\/k=2\/k=3\/k=4\/k=5) (h2:k=1\/k=2\/k=3\/2<=n):
 Calls Tryz.prog 117 #[.agg #[.int .i64 k,.slice A n c,.int .i64 v],.int .i64 s] w fun e w'=>e=.returned (.agg (tcells (tF (rW k v n s) n) A n c))/\Below w.heap.size w w':=by
 obtain ⟨W1,hW1⟩:∃ W1,w.alloc (.cells #[.int .i64 k,.slice A n c,.int .i64 v] 84)=W1:=⟨_,rfl⟩;have hx1:=rbox_new w k A n c v 84;rw [hW1] at hx1
 have hb1:Below w.heap.size w W1:=by rw [<- hW1];exact (Below.refl _ _).alloc (Nat.le_refl _) _
 have hs1:W1.heap.size=w.heap.size+1:=by rw [<- hW1];simp
 obtain ⟨W2,hW2⟩:∃ W2,W1.alloc (.cells #[.slice none 0 0,.int .u64 0,.int .u64 0,.int .u64 0,.int .u64 0,.int .u64 0,.int .u64 0,.int .u64 0,.int .u64 0,.int .u64 0,.int .u64 0,.int .u64 0,.int .u64 0,.int .u64 0,.int .u64 0,.int .u64 0,.int .u64 0,.int .u64 0,.int .u64 0,.int .u64 0,.int .u64 0] 131)=W2:=⟨_,rfl⟩
 have hb2:Below W1.heap.size W1 W2:=by rw [<- hW2];exact (Below.refl _ _).alloc (Nat.le_refl _) _
 have hs2:W2.heap.size=w.heap.size+1+1:=by rw [<- hW2];simp [hs1]
 have hr2:W2.heap[w.heap.size+1]? =some (.cells #[.slice none 0 0,.int .u64 0,.int .u64 0,.int .u64 0,.int .u64 0,.int .u64 0,.int .u64 0,.int .u64 0,.int .u64 0,.int .u64 0,.int .u64 0,.int .u64 0,.int .u64 0,.int .u64 0,.int .u64 0,.int .u64 0,.int .u64 0,.int .u64 0,.int .u64 0,.int .u64 0,.int .u64 0] 131):=by rw [<- hW2,<-hs1];exact heap_alloc_new _ _
 obtain ⟨V3,hV3⟩:∃ V3,W2.alloc (.cells #[.slice none 0 0,.int .u64 0,.int .u64 0,.int .u64 0,.int .u64 0,.int .u64 0,.int .u64 0,.int .u64 0,.int .u64 0,.int .u64 0,.int .u64 0,.int .u64 0,.int .u64 0,.int .u64 0,.int .u64 0,.int .u64 0,.int .u64 0,.int .u64 0,.int .u64 0,.int .u64 0,.int .u64 0] 131)=V3:=⟨_,rfl⟩
 have hbv:Below W2.heap.size W2 V3:=by rw [<- hV3];exact (Below.refl _ _).alloc (Nat.le_refl _) _
 have hv3:V3.heap[w.heap.size+1+1]? =some (.cells #[.slice none 0 0,.int .u64 0,.int .u64 0,.int .u64 0,.int .u64 0,.int .u64 0,.int .u64 0,.int .u64 0,.int .u64 0,.int .u64 0,.int .u64 0,.int .u64 0,.int .u64 0,.int .u64 0,.int .u64 0,.int .u64 0,.int .u64 0,.int .u64 0,.int .u64 0,.int .u64 0,.int .u64 0] 131):=by rw [<- hV3,<-hs2];exact heap_alloc_new _ _
 have hsv:V3.heap.size=w.heap.size+1+1+1:=by rw [<- hV3];simp [hs2]
 obtain ⟨W3,hW3⟩:∃ W3,V3.setRow (w.heap.size+1+1) #[.slice A n c,.int .u64 0,.int .u64 0,.int .u64 0,.int .u64 0,.int .u64 0,.int .u64 0,.int .u64 0,.int .u64 0,.int .u64 0,.int .u64 0,.int .u64 0,.int .u64 0,.int .u64 0,.int .u64 0,.int .u64 0,.int .u64 0,.int .u64 0,.int .u64 0,.int .u64 0,.int .u64 0]=W3:=⟨_,rfl⟩
 have hb3:Below W2.heap.size W2 W3:=by rw [<- hW3];exact setRow_below hbv (by omega)
 have hs3:W3.heap.size=w.heap.size+1+1+1:=by rw [<- hW3];simp [World.setRow,hsv]
 have ht3:TBox W3 (w.heap.size+1+1) (tF [] n) A n c:=by rw [tF_nil,<-hW3];exact setRow_heap (w:=V3) (w.heap.size+1+1) _ _ _ _ hv3
 have Hi:=Lib.hid (show (Tryz.prog.info? 131).map (·.size)=some 21 from by kernel_rfl);obtain ⟨W4,hW4⟩:∃ W4,W3.alloc (.cells (zeroArr n) 3)=W4:=⟨_,rfl⟩
 have hb4:Below W3.heap.size W3 W4:=by rw [<- hW4];exact (Below.refl _ _).alloc (Nat.le_refl _) _
 have hs4:W4.heap.size=w.heap.size+1+1+1+1:=by rw [<- hW4];simp [hs3]
 have ho4:Ow W4 w.heap.size (some ⟨w.heap.size+1+1+1,0,none⟩) n n (zeros n):=by
  have:=zeroArr_ow (n:=n) (lo:=w.heap.size) (by omega) W3 (by omega);rw [hW4,hs3] at this;exact this
 have hmk:(Instr.makeSlice 23 (.int .i64 (n:Int)) (.int .i64 (n:Int))).run Tryz.prog W3=.ok (.slice (some ⟨w.heap.size+1+1+1,0,none⟩) n n) W4:=by rw [make_ints (by omega),hW4,hs3]
 have hx2:=hx1.below (by omega) hb2;have hx3:=hx2.below (by omega) hb3;have hx4:=hx3.below (by omega) hb4;have ht4:TBox W4 (w.heap.size+1+1) (tF [] n) A n c:=ht3.kept (hb4.block _ (by omega));have hr4:W4.heap[w.heap.size+1]? =some (.cells #[.slice none 0 0,.int .u64 0,.int .u64 0,.int .u64 0,.int .u64 0,.int .u64 0,.int .u64 0,.int .u64 0,.int .u64 0,.int .u64 0,.int .u64 0,.int .u64 0,.int .u64 0,.int .u64 0,.int .u64 0,.int .u64 0,.int .u64 0,.int .u64 0,.int .u64 0,.int .u64 0,.int .u64 0] 131):=(hb4.block _ (by omega)).trans ((hb3.block _ (by omega)).trans hr2)
 have hbW4:Below w.heap.size w W4:=((hb1.trans (hb2.mono (by omega))).trans (hb3.mono (by omega))).trans (hb4.mono (by omega));have HOM:=Lib.hid (openMasks_any (some ⟨w.heap.size+1+1+1,0,none⟩) n n W4.heap.size (zeros n) s W4 ho4.rd (Nat.le_refl _) (by omega) hs (fun i hi=>by rw [zeros_nth];omega));have Hel:=Lib.hid (show (emL (zeros n) s).length=n from opN_len n s);have HX4:=Lib.hid hx4;have HT4:=Lib.hid ht4;have HR4:=Lib.hid hr4;have HB4:=Lib.hid hbW4;have HS4:=Lib.hid hs4;have HMS:=Lib.hid (opN_lt (n:=n) hs);obtain ⟨x0,x1,x2⟩:=id hx3;obtain ⟨z0,z1,z2⟩:=id hx2
 clear hb1 hb2 hb3 hbv hsv hb4 hbW4 ho4 hx4 ht4 hr4 hr2 ht3 hx1 hx2 hx3;refine (callsIn_wide (n:=9)).1 ?_;refine callsIn_of_wp_marks Tryz.func117 rfl trivial ?_ rfl;simp only [Tryz.ntmps117,List.size_toArray,List.length_cons,List.length_nil,Nat.reduceAdd,Nat.reduceSub,Array.replicate_succ,Array.replicate_zero,List.push_toArray,List.append_toArray,List.nil_append,List.cons_append]
 gi_wp2_with (first
  |(refine wpListIn_store_row rfl 131 _ _ rfl (w.heap.size+1+1) #[.slice A n c,.int .u64 0,.int .u64 0,.int .u64 0,.int .u64 0,.int .u64 0,.int .u64 0,.int .u64 0,.int .u64 0,.int .u64 0,.int .u64 0,.int .u64 0,.int .u64 0,.int .u64 0,.int .u64 0,.int .u64 0,.int .u64 0,.int .u64 0,.int .u64 0,.int .u64 0,.int .u64 0] rfl rfl 131 _ hv3 Hi.out rfl (by simp [Value.oneCell']) ?_;rw [hW3])
  |((try refine ⟨trivial,?_⟩);gi_at_call 63;refine (callsIn_wide.2 HOM.out).mono ?_;rintro e w5 ⟨A5,c5,rfl,ho5,hb5⟩;rw [Hel.out] at ho5 ⊢;obtain ⟨W6,hW6⟩:∃ W6,w5.alloc (.cells #[.int .u64 1] 127)=W6:=⟨_,rfl⟩;have hb6:Below w5.heap.size w5 W6:=(by rw [<- hW6];exact (Below.refl _ _).alloc (Nat.le_refl _) _);have hx6:=(HX4.out.below (by omega:w.heap.size<W4.heap.size) hb5).below (by have:=hb5.size;omega) hb6;obtain ⟨y0,y1,y2⟩:=id hx6)
  |((try refine ⟨trivial,?_⟩);gi_at_call 152;refine (callsIn_wide.2 (waysToHold_at A c n k v A5 n c5 _ hk)).mono ?_;rintro e w7 ⟨MB,RB,rfl,hMl,hRl,hmb,hrb,hb7⟩))
 have hMB:=cell_lt hmb;have hRB:=cell_lt hrb;have hs5:=hb5.size
 have hs6:W6.heap.size=w5.heap.size+1:=by rw [<- hW6];simp
 have hs7:=hb7.size;have hb47:Below W4.heap.size W4 w7:=(hb5.trans (hb6.mono hb5.size)).trans (hb7.mono (by omega));have hs4:=HS4.out;have hb07:Below w.heap.size w w7:=HB4.out.trans (hb47.mono (by omega));have ht7:TBox w7 (w.heap.size+1+1) (tF [] n) A n c:=HT4.out.kept (hb47.block _ (by omega));have hr7:w7.heap[w.heap.size+1]? =some (.cells (tcells (fun _=>0) none 0 0) 131):=(hb47.block _ (by omega)).trans HR4.out;have hy7:w7.heap[w5.heap.size]? =some (.cells #[.int .u64 ((wyV 0:Nat):Int)] 127):=(hb7.block _ (by omega)).trans (by rw [<- hW6];exact heap_alloc_new _ _)
 have ho7:Rd w7 w7.heap.size A5 n (opN n s):=by
  have h5:=((ho5.below hb6).below hb7).rd
  exact ⟨opN_len n s,fun hn=>by
   obtain ⟨b,off,e,hl,hc⟩:=h5.2 hn
   exact ⟨b,off,e,cell_lt (hc 0 hn),hc⟩⟩
 have HA5:=Lib.hid (show ∀ b off,A5=some ⟨b,off,none⟩->W4.heap.size<=b/\b<w5.heap.size from fun b off e=>by
  obtain ⟨g,e2,h1,h2⟩:=ho5.form n1;rw [e] at e2
  injection e2 with e2
  injection e2 with e2 _ _
  omega)
 have HWS:=Lib.hid (fun x (hx:x∈waysN k v (opN n s) n)=>ways_small hx);obtain ⟨TB,hTB⟩:∃ TB,TB=w.heap.size+1+1:=⟨_,rfl⟩;obtain ⟨YB,hYB⟩:∃ YB,YB=w5.heap.size:=⟨_,rfl⟩;rw [<- hTB] at ht7 ⊢;rw [<- hYB] at hy7 HA5 ⊢
 have d7:TB<W4.heap.size:=by omega
 have d1:TB<YB:=by omega
 have d2:YB<MB:=by omega
 have d3:YB<RB:=by omega
 have d4:w.heap.size+1<TB:=by omega
 have d5:w.heap.size<=TB:=by omega
 have d6:YB<w7.heap.size:=by omega
 clear hs5 hs6 hs7 hs4 hTB hYB hb47 hb5 hb6 hb7 x0 x1 x2 z0 z1 z2 y0 y1 y2 hx6 hMl hRl;rw [show Value.agg #[.slice A n c,.int .u64 0,.int .u64 0,.int .u64 0,.int .u64 0,.int .u64 0,.int .u64 0,.int .u64 0,.int .u64 0,.int .u64 0,.int .u64 0,.int .u64 0,.int .u64 0,.int .u64 0,.int .u64 0,.int .u64 0,.int .u64 0,.int .u64 0,.int .u64 0,.int .u64 0,.int .u64 0]=Value.agg (tcells (fun _=>0) A n c) from rfl];clear hW1 hW2 hV3 hW3 hW4 hW6 hmk hv3 HR4 HT4 HX4 hs1 hs2 hs3 HOM HB4
 refine range_two 9 (q:=8) (by rfl) (enters_of Tryz.func167 (by kernel_rfl) rfl) (ways_seq MB RB w7.heap.size k A n c v A5 n c5 (opN n s) n1 n4 HMS.out hk h2)
  (fun pre X=>WBase MB RB w7.heap.size k A n c v A5 n c5 (opN n s) X/\TBox X TB (tF pre n) A n c/\X.heap[YB]? =some (.cells #[.int .u64 ((wyV pre.length:Nat):Int)] 127)/\X.heap[w.heap.size+1]? =some (.cells (tcells (fun _=>0) none 0 0) 131)/\Below w.heap.size w X)
  (fun cc X=>False)
  (fun pre X h=>h.1)
  (fun pre X Y h hb=>⟨h.1.below hb (by omega) (by omega) (by omega),h.2.1.kept (hb.block _ (by omega)),(hb.block _ (by omega)).trans h.2.2.1,(hb.block _ (by omega)).trans h.2.2.2.1,h.2.2.2.2.trans (hb.mono (by omega))⟩)
  (fun cc X Y h hb=>h)
  ⟨⟨hmb,hrb,ho7,Nat.le_refl _⟩,ht7,hy7,hr7,hb07⟩ ?assign ?body ?done ?stop
 case assign=>
  intro l v W K hK;simp only [List.setIfInBounds_toArray,List.set_cons_zero,List.set_cons_succ] at hK ⊢
  gi_wp2
  exact hK
 case body=>
  rintro l pre x X b n' c' ⟨hbX,htX,hyX,hrX,hBX⟩ hx hbb hrd;obtain ⟨hxl,hsm⟩:=HWS.out x hx
  obtain rfl:n'=n:=by rw [<- hrd.1];exact hxl
  have hXs:w7.heap.size<=X.heap.size:=hbX.2.2.2;simp only [List.setIfInBounds_toArray,List.set_cons_zero,List.set_cons_succ]
  gi_wp2
  have HSM:=Lib.hid hsm;have HRd:=Lib.hid hrd;have HtX:=Lib.hid htX;have HyX:=Lib.hid hyX;clear hsm htX hyX
  gi_loopw [26] (fun i wr=>∃ t:Nat,t<=n'/\i=.int .i64 t/\TBox wr TB (tG pre x n' t) A n' c/\X.grownBy wr (some TB)) (fun i _=>n'-(intOf i).toNat)
  case atStart=>exact ⟨0,Nat.zero_le _,rfl,by rw [tG_zero];exact HtX.out,World.grownBy.refl X _⟩
  case round=>
   obtain ⟨t,ht,rfl,hT,hgt⟩:=hrel;have hY:wr.heap[YB]? =some (.cells #[.int .u64 ((wyV pre.length:Nat):Int)] 127):=(hgt.block YB (Array.getElem?_eq_some_iff.1 HyX.out).1 (fun e=>by have:=Option.some.inj e;omega)).trans HyX.out;have hcY:=cell_of_row _ _ 0 _ _ (0,0) hY
   by_cases hlt:t<n'
   ·obtain ⟨b',off',eb,hbl,hck0⟩:=HRd.out.at_ hlt;cases eb;have hbT:b≠TB:=(by omega);have hck:=(World.cell?_of_block (a:=⟨b,0+t,none⟩) (hgt.block b hbl (fun e=>hbT (Option.some.inj e)))).trans hck0;rw [Nat.zero_add] at hck;obtain ⟨x0,x4⟩:=HSM.out t hlt;obtain ⟨z,hzv⟩:=Int.eq_ofNat_of_zero_le x0;rw [hzv] at hck;have hi20:t*5+z<20:=(by omega);have hold:=hT.cell hi20;have hfr:=hT.frozen (1+t*5+z);have hst:=hT.set hi20 (tG pre x n' t (t*5+z)|||wyV pre.length);rw [tG_step pre x hlt (by omega) (by rw [hzv];rfl)] at hst;have hor:=bits_or_u64_nat (tG pre x n' t (t*5+z)) (wyV pre.length) (by have:=tG_lt pre x n' t (t*5+z);omega) (by have:=wyV_lt pre.length;omega)
    rw [<- Nat.add_assoc] at hold hst;have hz5:(z:Int)<5:=(by omega);have ht4:(t:Int)<4:=(by omega);have hor':=Lib.hid hor;have HE1:=Lib.hid (show TBox (wr.drew.setCell ⟨TB,1+t*5+z,none⟩ (.int .u64 ((tG pre x n' t (t*5+z)|||wyV pre.length:Nat):Int))) TB (tG pre x n' (t+1)) A n' c from hst);have HE2:=Lib.hid (show X.grownBy (wr.drew.setCell ⟨TB,1+t*5+z,none⟩ (.int .u64 ((tG pre x n' t (t*5+z)|||wyV pre.length:Nat):Int))) (some TB) from (grown_drew hgt).trans grown_set);obtain ⟨f,hf⟩:∃ f,f=tG pre x n' t (t*5+z):=⟨_,rfl⟩;obtain ⟨y,hy⟩:∃ y,y=wyV pre.length:=⟨_,rfl⟩;rw [<- hf,<-hy] at HE1 HE2 hor';rw [<- hf] at hold;rw [<- hy] at hcY;clear hf hy hor hst
    gi_wp2
    refine wpIn_region_rd [31,32,33,34,35,36,37,38,39,40,41] (TbG TB t z f y) (by kernel_rfl) (by kernel_rfl) (by kernel_rfl) (by simp) ?step ?last
    case step=>
     intro i o a hi hoo hfr hpre;have e5:a.eval (.tmp 5)=.pointer (some ⟨TB,0,none⟩):=hfr 5 (by simp);have e7:a.eval (.tmp 7)=.pointer (some ⟨YB,0,none⟩):=hfr 7 (by simp);have e9:a.eval (.tmp 9)=.int .i64 t:=hfr 9 (by simp);have e10:a.eval (.tmp 10)=.int .i64 z:=hfr 10 (by simp);have hi11:i<11:=hi;have:i=0\/i=1\/i=2\/i=3\/i=4\/i=5\/i=6\/i=7\/i=8\/i=9\/i=10:=(by omega)
     rcases this with rfl|rfl|rfl|rfl|rfl|rfl|rfl|rfl|rfl|rfl|rfl
     all_goals
      simp only [List.getElem?_toArray,List.getElem?_cons_zero,List.getElem?_cons_succ,Option.some.injEq] at hoo;subst hoo
     ·refine ⟨_,?_,rfl⟩;unfold execOp;simp only [e9]
      go_simp
     ·refine ⟨_,?_,rfl⟩;unfold execOp;simp only [e10]
      go_simp
     ·refine ⟨_,?_,rfl⟩;unfold execOp;simp only [e5]
      go_simp
     ·have p2:a.eval (.tmp 33)=.pointer (some ⟨TB,1,none⟩):=hpre ⟨2,.data⟩ (by simp) rfl;have p0:a.eval (.tmp 31)=.int .i64 t:=hpre ⟨0,.data⟩ (by simp) rfl;refine ⟨_,?_,rfl⟩;unfold execOp;simp only [p2,p0]
      go_simp
     ·have p3:a.eval (.tmp 34)=.pointer (some ⟨TB,1+t*5,none⟩):=hpre ⟨3,.data⟩ (by simp) rfl;have p1:a.eval (.tmp 32)=.int .i64 z:=hpre ⟨1,.data⟩ (by simp) rfl;refine ⟨_,?_,rfl⟩;unfold execOp;simp only [p3,p1]
      go_simp
     ·have p4:a.eval (.tmp 35)=.pointer (some ⟨TB,1+t*5+z,none⟩):=hpre ⟨4,.data⟩ (by simp) rfl;refine ⟨_,?_,rfl⟩;unfold execOp;simp only [p4]
      go_simp
     ·refine ⟨_,?_,rfl⟩;unfold execOp;simp only [e7]
      go_simp
     ·have p5:a.eval (.tmp 36)=.int .u64 f:=hpre ⟨5,.data⟩ (by simp) rfl;have p6:a.eval (.tmp 37)=.int .u64 y:=hpre ⟨6,.data⟩ (by simp) rfl;refine ⟨_,?_,rfl⟩;unfold execOp;simp only [p5,p6,<-hor'.out]
      go_simp
     ·refine ⟨_,?_,rfl⟩;unfold execOp;simp only [e5]
      go_simp
     ·have p8:a.eval (.tmp 39)=.pointer (some ⟨TB,1,none⟩):=hpre ⟨8,.data⟩ (by simp) rfl;have p0:a.eval (.tmp 31)=.int .i64 t:=hpre ⟨0,.data⟩ (by simp) rfl;refine ⟨_,?_,rfl⟩;unfold execOp;simp only [p8,p0]
      go_simp
     ·have p9:a.eval (.tmp 40)=.pointer (some ⟨TB,1+t*5,none⟩):=hpre ⟨9,.data⟩ (by simp) rfl;have p1:a.eval (.tmp 32)=.int .i64 z:=hpre ⟨1,.data⟩ (by simp) rfl;refine ⟨_,?_,rfl⟩;unfold execOp;simp only [p9,p1]
      go_simp
    case last=>
     intro o a hoo hdef htm hfr hpre;simp only [List.length_cons,List.length_nil,Nat.reduceAdd,List.getElem?_toArray,List.getElem?_cons_zero,List.getElem?_cons_succ,Option.some.injEq] at hoo;subst hoo;have g0:a.tmps.getD 31 undef=.int .i64 t:=hpre 0 (by simp);have g1:a.tmps.getD 32 undef=.int .i64 z:=hpre 1 (by simp);have g2:a.tmps.getD 33 undef=.pointer (some ⟨TB,1,none⟩):=hpre 2 (by simp);have g3:a.tmps.getD 34 undef=.pointer (some ⟨TB,1+t*5,none⟩):=hpre 3 (by simp);have g4:a.tmps.getD 35 undef=.pointer (some ⟨TB,1+t*5+z,none⟩):=hpre 4 (by simp);have g5:a.tmps.getD 36 undef=.int .u64 f:=hpre 5 (by simp);have g6:a.tmps.getD 37 undef=.int .u64 y:=hpre 6 (by simp);have g7:a.tmps.getD 38 undef=.int .u64 (f|||y:Nat):=hpre 7 (by simp);have g8:a.tmps.getD 39 undef=.pointer (some ⟨TB,1,none⟩):=hpre 8 (by simp);have g9:a.tmps.getD 40 undef=.pointer (some ⟨TB,1+t*5,none⟩):=hpre 9 (by simp);have g10:a.tmps.getD 41 undef=.pointer (some ⟨TB,1+t*5+z,none⟩):=hpre 10 (by simp);have h38:a.eval (.tmp 38)=.int .u64 (f|||y:Nat):=g7;have h41:a.eval (.tmp 41)=.pointer (some ⟨TB,1+t*5+z,none⟩):=g10
     refine ⟨wr.drew.setCell ⟨TB,1+t*5+z,none⟩ (.int .u64 (f|||y:Nat)),?_,?_⟩
     ·unfold execOp;simp only [h38,h41]
      go_simp
     ·have key:=htm;simp only [List.foldl_cons,List.foldl_nil,g0,g1,g2,g3,g4,g5,g6,g7,g8,g9,g10,List.setIfInBounds_toArray,List.set_cons_succ,List.set_cons_zero] at key;clear htm hfr hpre g0 g1 g2 g3 g4 g5 g6 g7 g8 g9 g10 h38 h41 hold hcY hY;obtain ⟨tm,df⟩:=a
      dsimp only at key hdef
      subst key hdef
      gi_wp2
      exact ⟨⟨t+1,hlt,by go_num,HE1.out,HE2.out⟩,by simp [intOf];omega⟩
   ·obtain rfl:t=n':=by omega
    have hL1:(pre++[x]).length=pre.length+1:=(by simp);have hY0:=Lib.hid hY;have HT:=Lib.hid hT;have HG:=Lib.hid hgt;have hfY:=frozen_of_row _ _ 0 _ _ hY;clear hY hT
    gi_wp2
    have hg:=HG.out;have hXwr:=hg.size;have hgs:wr.grownBy (wr.setCell ⟨YB,0,none⟩ (.int .u64 (IntKind.u64.wrap (((wyV pre.length:Nat):Int)*2)))) (some YB):=grown_set;have hb1:Below w.heap.size X wr:=Below.of_grown hg hBX.size (by omega);refine ⟨(Mid.of_grown hg (by omega)).trans (Mid.setCell _ _ _ _ _ (by omega)),⟨?_,?_,?_,?_⟩,?_,?_,?_,?_⟩
    ·exact (hgs.cell_far ⟨MB,0,none⟩ (by show MB<_;omega) (fun e=>by have e:MB=YB:=Option.some.inj e;omega)).trans ((hg.cell_far ⟨MB,0,none⟩ (by show MB<_;omega) (fun e=>by have e:MB=TB:=Option.some.inj e;omega)).trans hbX.1)
    ·exact (hgs.cell_far ⟨RB,0,none⟩ (by show RB<_;omega) (fun e=>by have e:RB=YB:=Option.some.inj e;omega)).trans ((hg.cell_far ⟨RB,0,none⟩ (by show RB<_;omega) (fun e=>by have e:RB=TB:=Option.some.inj e;omega)).trans hbX.2.1)
    ·exact (hbX.2.2.1.grown hg (fun b off e=>by have:=HA5.out b off e;omega) (by omega)).grown hgs (fun b off e=>by have:=HA5.out b off e;omega) (by omega)
    ·exact Nat.le_trans (Nat.le_trans hXs hXwr) hgs.size
    ·exact (show TBox wr TB (tF (pre++[x]) t) A t c by rw [<- tG_all];exact HT.out).kept (heap_setCell_other wr ⟨YB,0,none⟩ TB _ (fun e=>by dsimp only at e;omega))
    ·rw [hL1,<-wyV_next];exact heap_setCell_same wr YB 0 _ _ _ hY0.out
    ·exact (heap_setCell_other wr ⟨YB,0,none⟩ (w.heap.size+1) _ (fun e=>by dsimp only at e;omega)).trans ((hg.block _ (by omega) (fun e=>by have:=Option.some.inj e;omega)).trans hrX)
    ·exact (hBX.trans hb1).setCell (p:=⟨YB,0,none⟩) (by show w.heap.size<=YB;omega) _
 case done=>
  rintro D W hD ⟨hbX,htX,hyX,hrX,hBX⟩ hK
  have hone:∀ F:Nat->Nat,(tcells F A n c).all (·.oneCell')=true:=fun F=>by simp [tcells,Value.oneCell']
  gi_wp2_with (first
   |(refine wpListIn_load_row rfl 131 _ rfl TB rfl 131 (tcells (tF ((allW (opN n s) n []).filter (holdsB k v)) n) A n c) (0,0) _ htX Tryz.underlying131 rfl Hi.out ?_)
   |(refine wpListIn_store_row rfl 131 _ _ rfl (w.heap.size+1) (tcells (tF ((allW (opN n s) n []).filter (holdsB k v)) n) A n c) rfl rfl 131 _ hrX Hi.out rfl (hone _) ?_))
  have hr8:=setRow_heap (w:=W) (w.heap.size+1) _ (tcells (tF ((allW (opN n s) n []).filter (holdsB k v)) n) A n c) _ _ hrX
  have hK2:(W.setRow (w.heap.size+1) (tcells (tF ((allW (opN n s) n []).filter (holdsB k v)) n) A n c)).heap[D]? =some (.deferred (some [])):=by
   unfold World.setRow;simp only [Array.getElem?_modify];rw [if_neg (by omega)];exact hK
  refine ⟨by simp,.inl ⟨_,_,rfl,run_takeDeferred hK2,?_⟩⟩;have hr9:=(World.putObj_heap_other (o:=.deferred none) (by omega:w.heap.size+1≠D)).trans hr8;exact ⟨_,results_cell_row (by rfl) _ _ (w.heap.size+1) 131 _ (0,0) _ rfl hr9 Tryz.underlying131 rfl Hi.out,rfl,(setRow_below hBX (by omega)).trans (below_put _ (by omega) hK2)⟩
 case stop=>
  rintro D cc W hD h hK;exact h.elim
end Go.Proofs.YtlnmioijgclndaaGreatDoor
namespace Go.Proofs.YtlnmioijgclndaaGreatDoor
open Go.ChangeShapes Go.WideShapes Go.ChangeAt Go.RowKit
theorem grown_sr0 {w:World} {g:Nat} {cs:Array Value}:w.grownBy (w.setRow g cs) (some g):=
 ⟨rfl,rfl,rfl,by simp,fun k hk hne=>by unfold World.setRow;simp only [Array.getElem?_modify];rw [if_neg (fun e=>hne (by rw [e]))]⟩
theorem grown_cell0 {w w':World} {OB b i:Nat} {v:Value} (h:w.grownBy w' (some OB)) (hc:w.cell? ⟨b,i,none⟩=some v) (hb:b≠OB):w'.cell? ⟨b,i,none⟩=some v:=
 (h.cell_far ⟨b,i,none⟩ (cell_lt hc) (fun e=>hb (Option.some.inj e))).trans hc
theorem grown_of_below6 {w w':World} {r:Option Nat} (h:Below w.heap.size w w'):w.grownBy w' r:=⟨h.os,h.tape,h.output,h.size,fun k hk _=>h.block k hk⟩
theorem grown_t2 {a b c:World} {r:Option Nat} (h:a.grownBy b r) (k:b.grownBy c r):a.grownBy c r:=h.trans k
theorem grown_ownS0 {w w1 w2:World} {OB:Nat} {r:Option Nat} (h:w.grownBy w1 (some OB)) (h2:w1.grownBy w2 r) (hr:∀ g,r=some g->w.heap.size<=g):w.grownBy w2 (some OB):=
 ⟨h2.os.trans h.os,h2.tape.trans h.tape,h2.output.trans h.output,Nat.le_trans h.size h2.size,fun k hk hne=>(h2.block k (Nat.lt_of_lt_of_le hk h.size) (fun e=>by have:=hr k e.symm;omega)).trans (h.block k hk hne)⟩
def zeroTab:Array Value:= #[.slice none 0 0,.int .u64 0,.int .u64 0,.int .u64 0,.int .u64 0,.int .u64 0,.int .u64 0,.int .u64 0,.int .u64 0,.int .u64 0,.int .u64 0,.int .u64 0,.int .u64 0,.int .u64 0,.int .u64 0,.int .u64 0,.int .u64 0,.int .u64 0,.int .u64 0,.int .u64 0,.int .u64 0]
theorem tab_info:(Tryz.prog.info? 131).map (fun i=>(i.zero,i.size,i.bytes))=some (some (.agg zeroTab),21,184):=by kernel_rfl
theorem nar_info (v0 v1:Value):(Tryz.prog.info? 78).map (·.size)=some (#[v0,v1]:Array Value).size:=by
 show _=some 2
 kernel_rfl
def NpG (NB P0:Nat) (s:Int) (A:Option Addr) (u cap:Nat) (rule cells:Array Value) (lo:Nat) (vs:List Value):Nat->Value->World->Prop
 |0,v,_=>v=.pointer (some ⟨NB,1,none⟩)
 |1,v,_=>v=.slice A u cap
 |2,v,_=>v=.agg rule
 |3,v,_=>v=.pointer (some ⟨P0,0,none⟩)
 |4,v,_=>v=.int .i64 s
 |5,v,_=>v=.agg cells
 |6,v,w=>∃ g,v=.slice (some ⟨g,0,none⟩) 1 1/\w.heap[g]? =some (.cells cells 131)/\(Value.slice A u cap).ownBlock≠some g
 |7,v,w=>∃ g' cap',v=.slice (some ⟨g',0,none⟩) (u+1) cap'/\w.ownsRow lo 131 21 (.slice (some ⟨g',0,none⟩) (u+1) cap') (u+1) (vs++cells.toList)
 |8,v,_=>v=.pointer (some ⟨NB,1,none⟩)
 |_,_,_=>True
theorem npG_eff {NB P0:Nat} {s:Int} {A:Option Addr} {u cap:Nat} {rule cells:Array Value} {lo:Nat} {vs:List Value} (j i:Nat) (v:Value) (w1 w2:World) (hji:j≠i) (he:(i=7->w1.grownBy w2 (Value.slice A u cap).ownBlock)/\(i≠7->Below w1.heap.size w1 w2)) (h:NpG NB P0 s A u cap rule cells lo vs j v w1):NpG NB P0 s A u cap rule cells lo vs j v w2:=by
 unfold NpG at h ⊢
 split at h
 all_goals first
  |exact h
  |(obtain ⟨g,e,h1,h2⟩:=h
    refine ⟨g,e,?_,h2⟩
    by_cases hi:i=7
    ·exact ((he.1 hi).block g (Array.getElem?_eq_some_iff.1 h1).1 (fun e2=>h2 e2.symm)).trans h1
    ·exact ((he.2 hi).block g (Array.getElem?_eq_some_iff.1 h1).1).trans h1)
  |(obtain ⟨g',cap',e,h1⟩:=h
    exact ⟨g',cap',e,own_below8 h1 (he.2 (fun e2=>hji e2.symm))⟩)
def NrOk (w:World) (L B Br s:Nat) (rs:List RuleM) (most:Nat) (A:Option Addr) (n:Nat):Prop:=4<=most->TbR w L B Br s rs A n
set_option maxHeartbeats 4000000 in
theorem narrower_any (s:Nat) (Ag:Option Addr) (ng cg Bg:Nat) (gi:List Int) (Ar:Option Addr) (nr cr Br:Nat) (rs:List RuleM) (most:Nat) (w:World) (hp:PGc w s Ag ng cg Bg gi Ar nr cr Br rs) (hv:pvB s gi rs=true) (hs:s∈[2,3,4]) (hmost:most<=4):
 Calls Tryz.prog 65 #[.agg #[.int .i64 s,.slice Ag ng cg,.slice Ar nr cr],.int .i64 most] w fun e w'=>∃ A n c,e=.returned (.agg #[.int .i64 s,.slice A n c])/\NrOk w' w.heap.size w'.heap.size Br s rs most A n/\Below w.heap.size w w':=by
 have hx0:=pbox_new w s Ag ng cg Ar nr cr 26;obtain ⟨Wa,hWa⟩:∃ Wa,w.alloc (.cells #[.int .i64 s,.slice Ag ng cg,.slice Ar nr cr] 26)=Wa:=⟨_,rfl⟩;rw [hWa] at hx0
 have hba:Below w.heap.size w Wa:=by rw [<- hWa];exact (Below.refl _ _).alloc (Nat.le_refl _) _
 have hsa:Wa.heap.size=w.heap.size+1:=by rw [<- hWa];simp
 obtain ⟨Wb,hWb⟩:∃ Wb,Wa.alloc (.cells #[.int .i64 0,.slice none 0 0] 78)=Wb:=⟨_,rfl⟩
 have hbb:Below Wa.heap.size Wa Wb:=by rw [<- hWb];exact (Below.refl _ _).alloc (Nat.le_refl _) _
 have hsb:Wb.heap.size=w.heap.size+1+1:=by rw [<- hWb];simp [hsa]
 have hrb:Wb.heap[w.heap.size+1]? =some (.cells #[.int .i64 0,.slice none 0 0] 78):=by rw [<- hWb,<-hsa];exact heap_alloc_new Wa _
 obtain ⟨Wd,hWd⟩:∃ Wd,Wb.alloc (.cells #[.int .i64 0,.slice none 0 0] 78)=Wd:=⟨_,rfl⟩
 have hbd:Below Wb.heap.size Wb Wd:=by rw [<- hWd];exact (Below.refl _ _).alloc (Nat.le_refl _) _
 have hsd:Wd.heap.size=w.heap.size+1+1+1:=by rw [<- hWd];simp [hsb]
 have hrd:Wd.heap[w.heap.size+1+1]? =some (.cells #[.int .i64 0,.slice none 0 0] 78):=by rw [<- hWd,<-hsb];exact heap_alloc_new Wb _
 obtain ⟨Wc,hWc⟩:∃ Wc,Wd.setRow (w.heap.size+1+1) #[.int .i64 s,.slice none 0 0]=Wc:=⟨_,rfl⟩
 have hbc:Below Wb.heap.size Wb Wc:=by rw [<- hWc];exact hbd.grown grown_sr0 hbd.size (fun k e=>by have:=Option.some.inj e;omega)
 have hsc:Wc.heap.size=w.heap.size+1+1+1:=by rw [<- hWc,<-hsd];simp [World.setRow]
 have hrc:Wc.heap[w.heap.size+1+1]? =some (.cells #[.int .i64 s,.slice none 0 0] 78):=by rw [<- hWc];exact setRow_heap (w:=Wd) _ _ _ _ _ hrd
 have hrb2:=(hbc.block (w.heap.size+1) (by omega)).trans hrb;have hx1:=hx0.below (by omega) hbb;have hx2:=hx1.below (by omega) hbc;obtain ⟨a0,a1,a2⟩:=id hx1;have Hi:=Lib.hid nar_info;have hbw:Below w.heap.size w Wc:=(hba.trans (hbb.mono (by omega))).trans (hbc.mono (by omega))
 by_cases h4:most<4
 ·have h4I:(most:Int)<4:=by omega
  have HB:=Lib.hid hbw;have hst:=Lib.hid (setRow_heap (w:=Wc) (w.heap.size+1) _ #[.int .i64 s,.slice none 0 0] 78 _ hrb2);have hgs:Wc.grownBy (Wc.setRow (w.heap.size+1) #[.int .i64 s,.slice none 0 0]) (some (w.heap.size+1)):=grown_sr0;have HB2:=Lib.hid (hbw.grown hgs hbw.size (fun k e=>by have:=Option.some.inj e;omega));clear hbw hgs hba hbb hbc hbd hx0 hx1 hx2
  go_enter Tryz.func65,Tryz.ntmps65
  go_wp2_with (first
   |(refine wpList_store_row rfl 78 _ _ rfl (w.heap.size+1+1) #[.int .i64 s,.slice none 0 0] rfl rfl 78 #[.int .i64 0,.slice none 0 0] hrd (Hi.out _ _) rfl (by simp [Value.oneCell']) ?_)
   |(refine wpList_load_row rfl 78 _ rfl (w.heap.size+1+1) rfl 78 #[.int .i64 s,.slice none 0 0] (0,0) _ hrc Tryz.underlying78 rfl (Hi.out _ _) ?_)
   |(refine wpList_store_row rfl 78 _ _ rfl (w.heap.size+1) #[.int .i64 s,.slice none 0 0] rfl rfl 78 #[.int .i64 0,.slice none 0 0] hrb2 (Hi.out _ _) rfl (by simp [Value.oneCell']) ?_))
  refine bodyPost_ret (v:=.agg #[.int .i64 s,.slice none 0 0]) (results_cell_row (by rfl) _ _ (w.heap.size+1) 78 _ (0,0) _ rfl hst.out Tryz.underlying78 rfl (Hi.out _ _)) rfl ?_;exact ⟨none,0,0,rfl,fun h=>absurd h (by omega),HB2.out⟩
 ·obtain rfl:most=4:=by omega
  obtain ⟨br,offr,RA,RC,hRA,hRu⟩:=rdrc_fun8 hp.r;have hrl:=hp.r.1
  have hnr:nr<=20:=by rw [<- hrl];exact (pv_gv hv).2.1
  have hall:=(pv_gv hv).2.2;have HRA:=Lib.hid hRA;have HRu:=Lib.hid hRu;have HAL:=Lib.hid hall;have HBw:=Lib.hid hbw;have hBr:=hp.rB;have HX:=Lib.hid hx2;obtain ⟨q0,q1,q2⟩:=id hx2;have hrbH:=Lib.hid hrb2;clear hRA hRu hall hba hbb hbc hbd hx0 hx1 hx2 hrb hrb2 hp hbw
  go_enter Tryz.func65,Tryz.ntmps65
  go_wp2_with (refine wpList_store_row rfl 78 _ _ rfl (w.heap.size+1+1) #[.int .i64 s,.slice none 0 0] rfl rfl 78 #[.int .i64 0,.slice none 0 0] hrd (Hi.out _ _) rfl (by simp [Value.oneCell']) ?_)
  clear hrd q0 q1 q2 a0 a1 a2
  go_loopw [17] (fun i wr=>∃ (u:Nat) (A:Option Addr) (cap:Nat),u<=nr/\i=.int .i64 u/\wr.heap[w.heap.size+1+1]? =some (.cells #[.int .i64 s,.slice A u cap] 78)/\wr.ownsRow Wc.heap.size 131 21 (.slice A u cap) u (tabV s RA RC rs u)/\Wc.grownBy wr (some (w.heap.size+1+1))) (fun i _=>nr-(intOf i).toNat)
  case atStart=>exact ⟨0,none,0,Nat.zero_le _,rfl,hrc,World.ownsRow_nil _ _ _ _,World.grownBy.refl _ _⟩
  case round=>
   clear hrc;obtain ⟨u,A,cap,hu,rfl,hrn,hown,hg⟩:=hrel
   by_cases hlt:u<nr
   ·have hltI:(u:Int)<(nr:Int):=(by omega);obtain ⟨hAre,hbr⟩:=HRA.out (by omega);obtain ⟨k0,k1,k2,hrd,hrcap⟩:=HRu.out u hlt;have hv0:=HAL.out u (by omega);obtain ⟨_,⟨hn1,hn4⟩,hk2,_⟩:=rv_facts rfl hv0;have hk:=rv_kind hv0;have HPu:Hid (tabV s RA RC rs (u+1)=tabV s RA RC rs u++(tcells (rtF s (rat rs u)) (RA u) (rat rs u).xs.length (RC u)).toList):=Lib.hid rfl;have hFF:rtF s (rat rs u)=tF (rW (rat rs u).k (rat rs u).v (rat rs u).xs.length s) (rat rs u).xs.length:=rfl;obtain ⟨F,hF⟩:∃ F,F=rtF s (rat rs u):=⟨_,rfl⟩;obtain ⟨rk,hrk⟩:∃ x,x=(rat rs u).k:=⟨_,rfl⟩
    obtain ⟨l,hrx⟩:∃ x,x=(rat rs u).xs.length:=⟨_,rfl⟩;obtain ⟨rvv,hrvv⟩:∃ x,x=(rat rs u).v:=⟨_,rfl⟩;obtain ⟨A',hA'⟩:∃ x,x=RA u:=⟨_,rfl⟩;obtain ⟨C',hC'⟩:∃ x,x=RC u:=⟨_,rfl⟩;rw [<- hF,<-hA',<-hrx,<-hC'] at HPu;rw [<- hF,<-hrk,<-hrx,<-hrvv] at hFF;rw [<- hrk] at k0 hk hk2;rw [<- hrx] at k1 hn1 hn4 hk2;rw [<- hrvv] at k2;rw [<- hA',<-hC'] at k1;have hB1:Below Br w wr:=(HBw.out.mono hBr).trans ((Below.refl Br Wc).grown hg (by omega) (fun k e=>by have:=Option.some.inj e;omega));have k0:=(hB1.cell (p:=⟨br,offr+u*3,none⟩) hbr).trans k0;have k1:=(hB1.cell (p:=⟨br,offr+u*3+1,none⟩) hbr).trans k1;have k2:=(hB1.cell (p:=⟨br,offr+u*3+2,none⟩) hbr).trans k2
    obtain ⟨x0,x1,x2⟩:PBox wr w.heap.size s Ag ng cg Ar nr cr:=by
     obtain ⟨y0,y1,y2⟩:=HX.out;exact ⟨grown_cell0 hg y0 (by omega),grown_cell0 hg y1 (by omega),grown_cell0 hg y2 (by omega)⟩
    obtain ⟨W,hW⟩:∃ W,wr.alloc (.cells #[.int .i64 rk,.slice A' l C',.int .i64 rvv] 84)=W:=⟨_,rfl⟩;have hbW:Below wr.heap.size wr W:=(by rw [<- hW];exact (Below.refl _ _).alloc (Nat.le_refl _) _);have hsW:W.heap.size=wr.heap.size+1:=(by rw [<- hW];simp);have hr0:W.heap[wr.heap.size]? =some (.cells #[.int .i64 rk,.slice A' l C',.int .i64 rvv] 84):=(by rw [<- hW];exact heap_alloc_new wr _);have y0:W.cell? ⟨wr.heap.size,0,none⟩=some (.int .i64 rk):=cell_of_row _ _ 0 _ _ (0,0) hr0;have y1:W.cell? ⟨wr.heap.size,1,none⟩=some (.slice A' l C'):=cell_of_row _ _ 1 _ _ (0,0) hr0;have y2:W.cell? ⟨wr.heap.size,2,none⟩=some (.int .i64 rvv):=cell_of_row _ _ 2 _ _ (0,0) hr0;have HTb:=Lib.hid (fun w'=>table_any A' C' l rk rvv s w' hs hn1 hn4 hk hk2);rw [<- hFF] at HTb;have hgs:=hg.size;have hrnW:=(hbW.block _ (Array.getElem?_eq_some_iff.1 hrn).1).trans hrn;have z1:W.cell? ⟨w.heap.size+1+1,1,none⟩=some (.slice A u cap):=cell_of_row _ _ 1 _ _ (0,0) hrnW;have p0:W.cell? ⟨w.heap.size,0,none⟩=some (.int .i64 s):=(hbW.cell (p:=⟨w.heap.size,0,none⟩) (cell_lt x0)).trans x0;have hownW:=own_below8 hown hbW;have HOW:=Lib.hid (fun w' (hb:Below W.heap.size W w')=>own_below8 hownW hb)
    have Hown:=Lib.hid (fun (g:Nat) (e:(Value.slice A u cap).ownBlock=some g)=>(⟨(World.ownsRow.lt hown g e).1,(World.ownsRow.lt hown g e).2⟩:Wc.heap.size<=g/\g<wr.heap.size));have HF:=Lib.hid (fun (w':World) (hg:W.grownBy w' (Value.slice A u cap).ownBlock)=>(⟨(hg.cell_far ⟨w.heap.size+1+1,1,none⟩ (cell_lt z1) (fun e=>by have:=Hown.out (w.heap.size+1+1) e.symm;omega)).trans z1,(hg.cell_far ⟨w.heap.size,0,none⟩ (cell_lt p0) (fun e=>by have:=Hown.out (w.heap.size) e.symm;omega)).trans p0,(hg.cell_far ⟨wr.heap.size,0,none⟩ (cell_lt y0) (fun e=>by have:=Hown.out (wr.heap.size) e.symm;omega)).trans y0,(hg.cell_far ⟨wr.heap.size,1,none⟩ (cell_lt y1) (fun e=>by have:=Hown.out (wr.heap.size) e.symm;omega)).trans y1,(hg.cell_far ⟨wr.heap.size,2,none⟩ (cell_lt y2) (fun e=>by have:=Hown.out (wr.heap.size) e.symm;omega)).trans y2,(hg.block _ (Array.getElem?_eq_some_iff.1 hrnW).1 (fun e=>by have:=Hown.out (w.heap.size+1+1) e.symm;omega)).trans hrnW⟩:w'.cell? ⟨w.heap.size+1+1,1,none⟩=some (.slice A u cap)/\w'.cell? ⟨w.heap.size,0,none⟩=some (.int .i64 s)/\w'.cell? ⟨wr.heap.size,0,none⟩=some (.int .i64 rk)/\w'.cell? ⟨wr.heap.size,1,none⟩=some (.slice A' l C')/\w'.cell? ⟨wr.heap.size,2,none⟩=some (.int .i64 rvv)/\w'.heap[w.heap.size+1+1]? =some (.cells #[.int .i64 s,.slice A u cap] 78)))
    obtain ⟨i0,hi0,hz0,hz1,hz2⟩:=info_parts tab_info;have Hlt:=Lib.hid hlt;have Hg:=Lib.hid hg;have HbW:=Lib.hid hbW;obtain ⟨vs,hvs⟩:∃ vs,vs=tabV s RA RC rs u:=⟨_,rfl⟩;rw [<- hvs] at HOW HPu;subst hAre;clear hvs hF hFF hrk hrx hrvv hA' hC' hownW hown hrd hrcap hv0 hk hk2 hB1 hr0 hrnW hg z1 p0 y0 y1 y2 hbW
    go_wp2
    refine wp_region_dsS [21,22,23,24,25,26,27,28,29] (NpG (w.heap.size+1+1) w.heap.size s A u cap #[.int .i64 rk,.slice A' l C',.int .i64 rvv] (tcells F A' l C') Wc.heap.size vs) (fun w1 w2=>w1.grownBy w2 (Value.slice A u cap).ownBlock) (fun i w1 w2=>(i=7->w1.grownBy w2 (Value.slice A u cap).ownBlock)/\(i≠7->Below w1.heap.size w1 w2)) (fun j w'=>j=7->w'.ownsRow Wc.heap.size 131 21 (.slice A u cap) u vs) (fun _ _=>HOW.out _ ((Below.refl _ _).drew)) (grown_drew (World.grownBy.refl W _)) (fun _ _ h h'=>h.trans h') (by kernel_rfl) (by kernel_rfl) (by simp) (fun j i v w1 w2 hji _ he hg=>npG_eff j i v w1 w2 hji he hg) ?step ?last
    case step=>
     intro i o a w' K D hD hcl hi hoo hrel hfr hpre hC hK;have eN:a.eval (.tmp 5)=.pointer (some ⟨w.heap.size+1+1,0,none⟩):=hfr 5 (by simp);have eR:a.eval (.tmp 7)=.pointer (some ⟨wr.heap.size,0,none⟩):=hfr 7 (by simp);have eP:a.eval (.tmp 2)=.pointer (some ⟨w.heap.size,0,none⟩):=hfr 2 (by simp);obtain ⟨kN,kP,k0,k1,k2,_⟩:=HF.out w' hrel
     have hkeep:∀ (v:Value),i≠7->NpG (w.heap.size+1+1) w.heap.size s A u cap #[.int .i64 rk,.slice A' l C',.int .i64 rvv] (tcells F A' l C') Wc.heap.size vs i v w'->K (a.put o.dst v) w':=fun v h10 hv=>hK v w' (World.grownBy.refl _ _) ⟨fun e=>absurd e h10,fun _=>Below.refl _ _⟩ (fun j _ _ h=>h) hv
     have hi9:i<9:=hi;have:i=0\/i=1\/i=2\/i=3\/i=4\/i=5\/i=6\/i=7\/i=8:=(by omega)
     rcases this with rfl|rfl|rfl|rfl|rfl|rfl|rfl|rfl|rfl
     all_goals
      simp only [List.getElem?_toArray,List.getElem?_cons_zero,List.getElem?_cons_succ,Option.some.injEq] at hoo;subst hoo
     ·refine oper_val (v:=.pointer (some ⟨w.heap.size+1+1,1,none⟩)) (w':=w') ?_ (hkeep _ (by decide) rfl);unfold execOp;simp only [eN]
      go_simp
     ·have p0:a.eval (.tmp 21)=.pointer (some ⟨w.heap.size+1+1,1,none⟩):=hpre ⟨0,.data⟩ (by simp) rfl;refine oper_val (v:=.slice A u cap) (w':=w') ?_ (hkeep _ (by decide) rfl);unfold execOp;simp only [p0]
      go_simp
     ·refine oper_val (v:=.agg #[.int .i64 rk,.slice A' l C',.int .i64 rvv]) (w':=w') ?_ (hkeep _ (by decide) rfl);unfold execOp;simp only [eR]
      go_simp
     ·refine oper_val (v:=.pointer (some ⟨w.heap.size,0,none⟩)) (w':=w') ?_ (hkeep _ (by decide) rfl);unfold execOp;simp only [eP]
      go_simp
     ·have p3:a.eval (.tmp 24)=.pointer (some ⟨w.heap.size,0,none⟩):=hpre ⟨3,.data⟩ (by simp) rfl;refine oper_val (v:=.int .i64 s) (w':=w') ?_ (hkeep _ (by decide) rfl);unfold execOp;simp only [p3]
      go_simp
     ·have p2:a.eval (.tmp 23)=.agg #[.int .i64 rk,.slice A' l C',.int .i64 rvv]:=hpre ⟨2,.data⟩ (by simp) rfl;have p4:a.eval (.tmp 25)=.int .i64 s:=hpre ⟨4,.data⟩ (by simp) rfl;refine oper_call (f:=117) (args:= #[.agg #[.int .i64 rk,.slice A' l C',.int .i64 rvv],.int .i64 s]) ?_ (HTb.out w') ?_
      ·unfold execOp
       go_simp
       exact ⟨by simpa [Act.eval] using p2,by simpa [Act.eval] using p4⟩
      ·rintro e w6 ⟨rfl,hb6⟩;exact ⟨_,rfl,hK _ w6 (grown_of_below6 hb6) ⟨fun e=>absurd e (by decide),fun _=>hb6⟩ (fun j hj _ h e=>own_below8 (h e) hb6) rfl⟩
     ·have p5:a.eval (.tmp 26)=.agg (tcells F A' l C'):=hpre ⟨5,.data⟩ (by simp) rfl;have p5':a.tmps[26]?.getD undef=.agg (tcells F A' l C'):=(by simpa [Act.eval] using p5);refine oper_val (v:=.slice (some ⟨w'.heap.size,0,none⟩) 1 1) (w':=w'.alloc (.cells (tcells F A' l C') 131)) ?_ (hK _ _ (only_alloc (World.grownBy.refl _ _) _) ⟨fun e=>by omega,fun _=>(Below.refl _ _).alloc (Nat.le_refl _) _⟩ (fun j hj hd h e=>own_below8 (h e) ((Below.refl _ _).alloc (Nat.le_refl _) _)) ⟨w'.heap.size,rfl,heap_alloc_new _ _,fun e=>by have h1:=Hown.out _ e;have h2:=hrel.size;omega⟩)
      unfold execOp;unfold tcells at p5' ⊢
      go_simp
     ·have p1:a.eval (.tmp 22)=.slice A u cap:=hpre ⟨1,.data⟩ (by simp) rfl;obtain ⟨g9,p6,q6,_⟩:∃ g,a.eval (.tmp 27)=.slice (some ⟨g,0,none⟩) 1 1/\w'.heap[g]? =some (.cells (tcells F A' l C') 131)/\(Value.slice A u cap).ownBlock≠some g:=hpre ⟨6,.data⟩ (by simp) rfl;have hw's:=hrel.size;obtain ⟨g',cap',wz,hrun,h1,h2,h3,_⟩:=run_append_lies (P:=Tryz.prog) w' 76 76 Wc.heap.size 131 i0 (.agg zeroTab) 21 184 Tryz.underlying76 hi0 hz0 hz1 hz2 rfl (by decide) (.slice A u cap) u vs (hC rfl) ⟨g9,0,none⟩ 1 1 (tcells F A' l C').toList rfl (World.news_of_block (cs:=tcells F A' l C') q6) (by simp [tcells,Value.oneCell']) (by decide) (by simp only [maxLen];omega) (by omega) (by omega) _ rfl
      refine oper_val (v:=.slice (some ⟨g',0,none⟩) (u+1) cap') (w':=wz) ?_ (hK _ _ h2 ⟨fun _=>h2,fun e=>absurd rfl e⟩ (fun j hj _ _ e=>absurd e hj) ⟨g',cap',rfl,h1⟩);unfold execOp;simp only [resolve,invoke,builtin,Sem.run_bind,Sem.run_pure,Result.andThen_ok,List.map_toArray,List.map_cons,List.map_nil,p1,p6,hrun]
     ·refine oper_val (v:=.pointer (some ⟨w.heap.size+1+1,1,none⟩)) (w':=w') ?_ (hkeep _ (by decide) rfl);unfold execOp;simp only [eN]
      go_simp
    case last=>
     intro o a w5 hoo hrel hdef htm hfr hpre;simp only [List.length_cons,List.length_nil,Nat.reduceAdd,List.getElem?_toArray,List.getElem?_cons_zero,List.getElem?_cons_succ,Option.some.injEq] at hoo;subst hoo;have g0:a.tmps.getD 21 undef=.pointer (some ⟨w.heap.size+1+1,1,none⟩):=hpre 0 (by simp);have g1:a.tmps.getD 22 undef=.slice A u cap:=hpre 1 (by simp);have g2:a.tmps.getD 23 undef=.agg #[.int .i64 rk,.slice A' l C',.int .i64 rvv]:=hpre 2 (by simp);have g3:a.tmps.getD 24 undef=.pointer (some ⟨w.heap.size,0,none⟩):=hpre 3 (by simp);have g4:a.tmps.getD 25 undef=.int .i64 s:=hpre 4 (by simp);have g5:a.tmps.getD 26 undef=.agg (tcells F A' l C'):=hpre 5 (by simp);obtain ⟨b6,g6,_⟩:∃ g,a.tmps.getD 27 undef=.slice (some ⟨g,0,none⟩) 1 1/\_:=hpre 6 (by simp);obtain ⟨g',cap',g7,h4⟩:∃ g' cap',a.tmps.getD 28 undef=.slice (some ⟨g',0,none⟩) (u+1) cap'/\w5.ownsRow Wc.heap.size 131 21 (.slice (some ⟨g',0,none⟩) (u+1) cap') (u+1) (vs++(tcells F A' l C').toList):=hpre 7 (by simp);have g8:a.tmps.getD 29 undef=.pointer (some ⟨w.heap.size+1+1,1,none⟩):=hpre 8 (by simp);have h28:a.eval (.tmp 28)=.slice (some ⟨g',0,none⟩) (u+1) cap':=g7
     have h29:a.eval (.tmp 29)=.pointer (some ⟨w.heap.size+1+1,1,none⟩):=g8;obtain ⟨kN,_,_,_,_,hr5⟩:=HF.out w5 hrel;have hf5:=frozen_of_row w5 (w.heap.size+1+1) 1 _ _ hr5;refine ⟨w5.setCell ⟨w.heap.size+1+1,1,none⟩ (.slice (some ⟨g',0,none⟩) (u+1) cap'),?_,?_⟩
     ·unfold execOp;simp only [h28,h29]
      go_simp
     ·have key:=htm;simp only [List.foldl_cons,List.foldl_nil,g0,g1,g2,g3,g4,g5,g6,g7,g8,List.setIfInBounds_toArray,List.set_cons_succ,List.set_cons_zero] at key;have hr6:=heap_setCell_same w5 (w.heap.size+1+1) 1 _ _ (.slice (some ⟨g',0,none⟩) (u+1) cap') hr5;clear htm hfr hpre g0 g1 g2 g3 g4 g5 g6 g7 g8 h28 h29 hf5 kN hr5;obtain ⟨tm,df⟩:=a
      dsimp only at key hdef
      subst key hdef;have hlt4':=(World.ownsRow.lt h4 g' rfl).1
      have h6:=own_kept8 h4 (grown_set (G:=w.heap.size+1+1) (i:=1) (v:=.slice (some ⟨g',0,none⟩) (u+1) cap')) (fun g e=>by
       have e1:g'=g:=(by simpa [Value.ownBlock] using e);intro e2;have e3:w.heap.size+1+1=g:=Option.some.inj e2
       omega)
      rw [<- HPu.out] at h6;have hg5:Wc.grownBy (w5.setCell ⟨w.heap.size+1+1,1,none⟩ (.slice (some ⟨g',0,none⟩) (u+1) cap')) (some (w.heap.size+1+1)):=grown_t2 (grown_ownS0 (grown_t2 Hg.out (grown_of_below6 HbW.out)) hrel (fun g e=>(Hown.out g e).1)) grown_set;clear h4
      go_wp2
      go_roundw
      case rel=>exact ⟨u+1,some ⟨g',0,none⟩,cap',Hlt.out,by go_num,hr6,h6,hg5⟩
      case measure=>have:=Hlt.out;simp [intOf];omega
   ·obtain rfl:u=nr:=by omega
    have hrR:=(hg.block (w.heap.size+1) (by omega) (fun e=>by have:=Option.some.inj e;omega)).trans hrbH.out;have hgS:wr.grownBy (wr.setRow (w.heap.size+1) #[.int .i64 s,.slice A u cap]) (some (w.heap.size+1)):=grown_sr0;have hst:=Lib.hid (setRow_heap (w:=wr) (w.heap.size+1) _ #[.int .i64 s,.slice A u cap] 78 _ hrR);have hbr:Below w.heap.size w wr:=HBw.out.grown hg HBw.out.size (fun k e=>by have:=Option.some.inj e;omega);have HB2:=Lib.hid (hbr.grown hgS hbr.size (fun k e=>by have:=Option.some.inj e;omega))
    have hownS:=own_kept8 hown hgS (fun g e=>by
     have:=(World.ownsRow.lt hown g e).1;intro e2;have e3:w.heap.size+1=g:=Option.some.inj e2
     omega)
    have HTB:=Lib.hid (show TbR (wr.setRow (w.heap.size+1) #[.int .i64 s,.slice A u cap]) w.heap.size (wr.setRow (w.heap.size+1) #[.int .i64 s,.slice A u cap]).heap.size Br s rs A u from tbr_own hownS hrl (fun j hj=>(HRu.out j hj).2.2.2.1.below (HB2.out.mono hBr)) (by omega));have Hrn:=Lib.hid hrn;have HrR:=Lib.hid hrR;clear hrn hrR hgS hbr hownS hown hg
    go_wp2_with (first
     |(refine wpList_load_row rfl 78 _ rfl (w.heap.size+1+1) rfl 78 #[.int .i64 s,.slice A u cap] (0,0) _ Hrn.out Tryz.underlying78 rfl (Hi.out _ _) ?_)
     |(refine wpList_store_row rfl 78 _ _ rfl (w.heap.size+1) #[.int .i64 s,.slice A u cap] rfl rfl 78 #[.int .i64 0,.slice none 0 0] HrR.out (Hi.out _ _) rfl (by simp [Value.oneCell']) ?_))
    refine bodyPost_ret (v:=.agg #[.int .i64 s,.slice A u cap]) (results_cell_row (by rfl) _ _ (w.heap.size+1) 78 _ (0,0) _ rfl hst.out Tryz.underlying78 rfl (Hi.out _ _)) rfl ?_;exact ⟨A,u,cap,rfl,fun _=>HTB.out,HB2.out⟩
theorem clone_any (A:Option Addr) (n c B:Nat) (xs:List Int) (w:World) (h:Rd w B A n xs) (hB:B<=w.heap.size) (hn:0<n) (hm:n<=1099511627776):
 Calls Tryz.prog 61 #[.slice A n c] w fun e w'=>∃ A' c',e=.returned (.slice A' n c')/\Ow w' w.heap.size A' n c' xs/\Below w.heap.size w w':=by
 obtain ⟨b,off,rfl,_,_⟩:=h.at_ hn;have hb0:Below w.heap.size w (w.alloc (.cells #[] 3)):=(Below.refl _ _).alloc (Nat.le_refl _) _;have HO:=Lib.hid (Ow.made0 w w.heap.size (Nat.le_refl _));have HR:=Lib.hid (h.below (hb0.mono hB))
 have hsO:w.heap.size<=(w.alloc (.cells #[] 3)).heap.size:=by simp
 have hcmp:=fun w'=>Lib.run_eql_slice_nil (P:=Tryz.prog) w' 23 3 (some ⟨b,off,none⟩) n c 0 0 Tryz.underlying23
 go_enter Tryz.func61,Tryz.ntmps61
 go_wp2_with (at_builtin;(refine push_new rfl (.tmp 5) (.tmp 6) rfl w.heap.size (some ⟨w.heap.size,0,none⟩) (some ⟨b,off,none⟩) n c B xs rfl rfl HO.out HR.out hm hsO ?_);intro A1 c1 w1 ho1 hg1;have hb1:=hb0.grown hg1 hb0.size (fun k hk=>HO.out.own_lo k hk))
 go_ret
 exact ⟨_,_,rfl,ho1,hb1⟩
theorem equal_any (A A':Option Addr) (c c' n n' B B':Nat) (xs ys:List Int) (w:World) (h:Rd w B A n xs) (h':Rd w B' A' n' ys) (hm:n<=1099511627776):
 Calls Tryz.prog 154 #[.slice A n c,.slice A' n' c'] w fun e w'=>e=.returned (.bool (same xs ys))/\Below w.heap.size w w':=by
 have hl:=Lib.hid h.1;have hl':=Lib.hid h'.1
 by_cases hnn:n=n'
 ·subst hnn
  go_enter Tryz.func154,Tryz.ntmps154
  go_wp2
  go_loopw [13] (fun i wr=>∃ k:Nat,k<=n/\i=.int .i64 k/\eqTo xs ys k/\Below w.heap.size w wr/\Rd wr B A n xs/\Rd wr B' A' n ys) (fun i _=>n-(intOf i).toNat)
  case atStart=>exact ⟨0,Nat.zero_le _,rfl,eqTo_zero,Below.refl _ _,h,h'⟩
  case round=>
   obtain ⟨k,hk,rfl,heq,hb,hr,hr'⟩:=hrel
   by_cases hlt:k<n
   ·obtain ⟨b,off,rfl,hbB,hck⟩:=hr.at_ hlt;obtain ⟨b',off',rfl,hbB',hck'⟩:=hr'.at_ hlt;have hltI:(k:Int)<(n:Int):=(by omega)
    by_cases e:nth xs k=nth ys k
    ·have hne:(nth xs k != nth ys k)=false:=(by simp [e]);have He:=Lib.hid e;clear e
     go_wp2
     go_quiet (fail)
     go_wp2
     go_roundw
     case rel=>exact ⟨k+1,by omega,by go_num,eqTo_succ heq He.out,below_drewN hb _,hr,hr'⟩
     case measure=>simp [intOf];omega
    ·have hne:(nth xs k != nth ys k)=true:=(by simp [e]);have He:=Lib.hid e;clear e
     go_wp2
     go_quiet (fail)
     go_wp2
     go_ret
     exact ⟨by rw [same_f He.out];rfl,below_drewN hb _⟩
   ·obtain rfl:k=n:=by omega
    go_wp2
    go_ret
    exact ⟨by rw [same_t hl.out hl'.out heq];rfl,hb⟩
 ·have hne:((n:Int) != (n':Int))=true:=by rw [bne_iff_ne];omega
  go_enter Tryz.func154,Tryz.ntmps154
  go_wp2
  go_ret
  exact ⟨by rw [same_len (by rw [hl.out,hl'.out];exact hnn)];rfl,Below.refl _ _⟩
def ntF (s:Int) (gi:List Int) (rs:List RuleM) (o:List Int):Nat->Nat->Option (List Int×Nat)
 |0,_=>none
 |d+1,t=>if nbL s gi rs o t=o then ntF s gi rs o d (t+1) else some (nbL s gi rs o t,t)
def naI (s:Int) (gi:List Int) (rs:List RuleM) (most:Nat):Nat->List Int->Nat->List Int×Nat
 |0,o,r=>(o,r)
 |f+1,o,r=>match ntF s gi rs o most 1 with
  |none=>(o,r)
  |some q=>naI s gi rs most f q.1 (r+1)
theorem ntF_some {s:Int} {gi:List Int} {rs:List RuleM} {o q:List Int} {u:Nat}:∀ {d t:Nat},ntF s gi rs o d t=some (q,u)->t<=u/\u<t+d/\q=nbL s gi rs o u/\q≠o/\∀ v,t<=v->v<u->nbL s gi rs o v=o:=by
 intro d
 induction d with
 |zero=>intro t h;cases h
 |succ d ih=>
  intro t h;simp only [ntF] at h
  split at h
  ·next e=>
   obtain ⟨h1,h2,h3,h4,h5⟩:=ih h;refine ⟨by omega,by omega,h3,h4,fun v v1 v2=>?_⟩
   by_cases ev:v=t
   ·subst ev;exact e
   ·exact h5 v (by omega) v2
  ·next e=>
   injection h with h
   injection h with h1 h2
   subst h1 h2;exact ⟨Nat.le_refl _,by omega,rfl,e,fun v v1 v2=>absurd v2 (by omega)⟩
theorem ntF_of {s:Int} {gi:List Int} {rs:List RuleM} {o:List Int}:∀ {d t:Nat},(∀ v,t<=v->v<t+d->nbL s gi rs o v=o)->ntF s gi rs o d t=none:=by
 intro d
 induction d with
 |zero=>intro t _;rfl
 |succ d ih=>
  intro t h;simp only [ntF];rw [if_pos (h t (Nat.le_refl _) (by omega))];exact ih (fun v h1 h2=>h v (by omega) (by omega))
theorem ntF_at {s:Int} {gi:List Int} {rs:List RuleM} {o q:List Int} {t:Nat}:∀ {d u:Nat},(∀ v,u<=v->v<t->nbL s gi rs o v=o)->u<=t->t<u+d->q=nbL s gi rs o t->q≠o->ntF s gi rs o d u=some (q,t):=by
 intro d
 induction d with
 |zero=>intro u _ h1 h2;omega
 |succ d ih=>
  intro u h h1 h2 hq hne;simp only [ntF]
  by_cases e:u=t
  ·subst e;rw [<- hq,if_neg hne]
  ·rw [if_pos (h u (Nat.le_refl _) (by omega))];exact ih (fun v v1 v2=>h v (by omega) v2) (by omega) (by omega) hq hne
theorem sum_30 {o:List Int} {s:Int} (h:mvd o s=true):∀ k,sumTo o k<=30*k:=by
 intro k
 induction k with
 |zero=>exact Nat.le_refl _
 |succ k ih=>
  have:=mvd_nth h k;simp only [sumTo];omega
theorem sum_480 {o:List Int} {s:Int} (h:mvd o s=true):sumTo o o.length<=480:=by
 have h1:=sum_30 h o.length;have h2:=(mvd_at h).2.2.1;omega
section
variable {s : Int} {gi : List Int} {rs : List RuleM} {most : Nat}
theorem ntF_sub {o q:List Int} {u:Nat} (hv:pvB s gi rs=true) (h4:most<=4) (hm:mvd o s=true) (h:ntF s gi rs o most 1=some (q,u)):Sub q o/\mvd q s=true/\sumTo q q.length<sumTo o o.length:=by
 obtain ⟨h1,h2,h3,h5,_⟩:=ntF_some h
 have hs:Sub q o:=by rw [h3];exact nb_sub hv hm (by omega) (by omega)
 exact ⟨hs,hs.mvd_ hm,by have:=sum_lt hs h5;rw [hs.1];exact this⟩
def naE (s:Int) (gi:List Int) (rs:List RuleM) (most:Nat) (o:List Int) (r:Nat):List Int×Nat:=naI s gi rs most (sumTo o o.length+1) o r
theorem naI_ind (P:List Int->Prop) (hv:pvB s gi rs=true) (h4:most<=4) (hP:∀ o t,mvd o s=true->1<=t->t<=most->P o->P (nbL s gi rs o (t:Nat))):∀ f o r,mvd o s=true->P o->P (naI s gi rs most f o r).1/\mvd (naI s gi rs most f o r).1 s=true:=by
 intro f
 induction f with
 |zero=>intro o r hm h;exact ⟨h,hm⟩
 |succ f ih=>
  intro o r hm h;simp only [naI]
  cases e:ntF s gi rs o most 1 with
  |none=>exact ⟨h,hm⟩
  |some q=>
   obtain ⟨h1,h2,h3,_,_⟩:=ntF_some (q:=q.1) (u:=q.2) e;obtain ⟨_,q2,_⟩:=ntF_sub hv h4 hm (q:=q.1) (u:=q.2) e;exact ih q.1 (r+1) q2 (by rw [h3];exact hP o _ hm (by omega) (by omega) h)
theorem naE_ind (P:List Int->Prop) {o:List Int} {r:Nat} (hv:pvB s gi rs=true) (h4:most<=4) (hP:∀ o t,mvd o s=true->1<=t->t<=most->P o->P (nbL s gi rs o (t:Nat))) (hm:mvd o s=true) (h:P o):P (naE s gi rs most o r).1/\mvd (naE s gi rs most o r).1 s=true:=
 naI_ind P hv h4 hP _ _ _ hm h
end
def naL (s:Int) (gi:List Int) (rs:List RuleM) (m:List Int) (most:Int):List Int:=if (pvB s gi rs&&mvd m s&&inr most 1 4)=true then (naE s gi rs most.toNat m 0).1 else []
def naR (s:Int) (gi:List Int) (rs:List RuleM) (m:List Int) (most:Int):Int:=if (pvB s gi rs&&mvd m s&&inr most 1 4)=true then (naE s gi rs most.toNat m 0).2 else -1
theorem hC_mono (m:List Int) (S u:Int) (v:Nat) {k k':Nat} (h:k<=k'):hC m S u v k<=hC m S u v k':=by
 induction h with
 |refl=>exact Nat.le_refl _
 |step _ ih=>simp only [hC];split<;>omega
def qV (m:List Int) (S:Int) (N:Nat) (u:Int):Nat->List (Nat×Nat)
 |0=>[]
 |r+1=>if hC m S u (r+1) N=1 then qV m S N u r++[(hL m S u (r+1) N,r+1)] else qV m S N u r
def qU (m:List Int) (S:Int) (N:Nat):Nat->List (Nat×Nat)
 |0=>[]
 |u+1=>qU m S N u++qV m S N u N
def keepQ (o:List Int) (p:Nat×Nat):List Int:=o.set p.1 (bits .and .i64 (nth o p.1) (2^p.2))
theorem qV_fold (m:List Int) (S:Int) (N:Nat) (u:Int) (o:List Int) (r:Nat):(qV m S N u r).foldl keepQ o=hVs m S N u o r:=by
 induction r with
 |zero=>rfl
 |succ r ih=>
  simp only [qV,hVs]
  split
  ·rw [List.foldl_append,ih];rfl
  ·exact ih
theorem qU_fold (m:List Int) (S:Int) (N u:Nat):(qU m S N u).foldl keepQ m=hU m S N u:=by
 induction u with
 |zero=>rfl
 |succ u ih=>simp only [qU,hU];rw [List.foldl_append,ih,qV_fold]
theorem qV_len (m:List Int) (S:Int) (N:Nat) (u:Int) (r:Nat):(qV m S N u r).length<=r:=by
 induction r with
 |zero=>exact Nat.le_refl _
 |succ r ih=>
  simp only [qV]
  split
  ·simp;omega
  ·omega
theorem qU_len (m:List Int) (S:Int) (N u:Nat):(qU m S N u).length<=u*N:=by
 induction u with
 |zero=>simp [qU]
 |succ u ih=>simp only [qU,List.length_append];have:=qV_len m S N u N;rw [Nat.succ_mul];omega
theorem qV_in {m:List Int} {S u:Int} {N n:Nat} (hat:∀ j,j<N->(lineAt S u j).toNat<n) (h0:0<n) (r:Nat):∀ p∈qV m S N u r,p.1<n/\1<=p.2/\p.2<=r:=by
 induction r with
 |zero=>intro p hp;simp [qV] at hp
 |succ r ih=>
  intro p hp;simp only [qV] at hp
  split at hp
  ·rcases List.mem_append.1 hp with h|h
   ·have:=ih p h;omega
   ·rw [List.mem_singleton] at h;subst h;exact ⟨hL_lt hat h0,by simp,by simp⟩
  ·have:=ih p hp;omega
theorem qU_in {m:List Int} {S:Int} {N n U:Nat} (hat:∀ u:Nat,u<U->∀ j,j<N->(lineAt S u j).toNat<n) (h0:0<n) (u:Nat) (hu:u<=U):∀ p∈qU m S N u,p.1<n/\1<=p.2/\p.2<=N:=by
 induction u with
 |zero=>intro p hp;simp [qU] at hp
 |succ u ih=>
  intro p hp;simp only [qU] at hp
  rcases List.mem_append.1 hp with h|h
  ·exact ih (by omega) p h
  ·exact qV_in (hat u (by omega)) h0 N p h
def fl (q:List (Nat×Nat)):List Value:=q.flatMap (fun p=>[.int .i64 (p.1:Int),.int .i64 (p.2:Int)])
theorem fl_len (q:List (Nat×Nat)):(fl q).length=q.length*2:=by
 induction q with
 |nil=>rfl
 |cons a q ih=>
  have:fl (a::q)=[.int .i64 (a.1:Int),.int .i64 (a.2:Int)]++fl q:=rfl;rw [this,List.length_append,ih,List.length_cons];simp;omega
theorem fl_app (q q':List (Nat×Nat)):fl (q++q')=fl q++fl q':=by simp [fl]
theorem fl_get {q:List (Nat×Nat)} {k:Nat} (h:k<q.length):(fl q)[k*2]? =some (.int .i64 (q[k].1:Int))/\(fl q)[k*2+1]? =some (.int .i64 (q[k].2:Int)):=by
 induction q generalizing k with
 |nil=>simp at h
 |cons a q ih=>
  have e:fl (a::q)=.int .i64 (a.1:Int)::.int .i64 (a.2:Int)::fl q:=rfl;rw [e]
  cases k with
  |zero=>simp
  |succ k=>
   have h':k<q.length:=(by simpa using h);rw [show (k+1)*2=k*2+1+1 by omega]
   simpa using ih h'
def OwF (w:World) (lo:Nat) (A:Option Addr) (n c:Nat) (q:List (Nat×Nat)):Prop:=w.ownsRow lo 186 2 (.slice A n c) n (fl q)
theorem OwF.below {w w':World} {lo n c:Nat} {A:Option Addr} {q:List (Nat×Nat)} (h:OwF w lo A n c q) (hb:Below w.heap.size w w'):OwF w' lo A n c q:=
 World.ownsRow.kept h (row:=none) ⟨hb.os,hb.tape,hb.output,hb.size,fun k hk _=>hb.block k hk⟩ (by
  cases e:(Value.slice A n c).ownBlock
  ·exact .inl rfl
  ·exact .inr (by simp))
theorem found_info:(Tryz.prog.info? 186).map (fun i=>(i.zero,i.size,i.bytes))=some (some (.agg #[.int .i64 0,.int .i64 0]),2,16):=by kernel_rfl
theorem push_found {w:World} {ops:Array Oper} {rest:List Oper} {o:Oper} {a:Act} {Q:Exit->Act->World->Prop} (hgd:o.guard=none) (s x:Operand)
 (ho:o.op=.call { callee:=.builtin .append,args:= #[s,x],argTypes:= #[183,183] })
 (lo:Nat) (A:Option Addr) (n c:Nat) (q:List (Nat×Nat)) (p v:Nat) (hs:a.eval s=.slice A n c) (hx:a.eval x=.slice (some ⟨w.heap.size,0,none⟩) 1 1) (hown:OwF w lo A n c q) (hn:n<=1099511627776) (hlo:lo<=w.heap.size)
 (h:∀ A' c' w',OwF w' lo A' (n+1) c' (q++[(p,v)])->(w.alloc (.cells #[.int .i64 (p:Int),.int .i64 (v:Int)] 186)).grownBy w' (Value.slice A n c).ownBlock->wpList Tryz.prog ops Q rest (a.put o.dst (.slice A' (n+1) c')) w'):
 wpList Tryz.prog ops Q (o::rest) a (w.alloc (.cells #[.int .i64 (p:Int),.int .i64 (v:Int)] 186)):=by
 obtain ⟨i0,hi,hz0,hz1,hz2⟩:=info_parts found_info;refine wpList_append_own (P:=Tryz.prog) _ hgd s x 183 ho lo 186 i0 (.agg #[.int .i64 0,.int .i64 0]) 2 16 Tryz.underlying183 hi hz0 hz1 hz2 rfl (by decide) _ n (fl q) hs (World.ownsRow.alloc hown _) ⟨w.heap.size,0,none⟩ 1 1 [.int .i64 (p:Int),.int .i64 (v:Int)] hx rfl ?_ ?_ (by simp only [maxLen];omega) (by omega) (by simp;omega) ?_
 ·intro j u hj
  match j,hj with
  |0,hj=>
   simp at hj
   subst hj
   simp [Addr.add]
  |1,hj=>
   simp at hj
   subst hj
   simp [Addr.add]
 ·intro u hu
  simp at hu
  rcases hu with rfl|rfl<;>rfl
 ·intro v' w' h2 h3 _;obtain ⟨g,cap,hv,_,_⟩:=World.ownsRow.form h2 (by omega);subst hv;exact h _ _ _ (by unfold OwF;rw [fl_app];exact h2) h3
set_option maxHeartbeats 1000000 in
theorem onlyPlace_any (A:Option Addr) (c n B:Nat) (m:List Int) (Ac:Option Addr) (cc N Bc:Nat) (S u:Int) (v:Nat) (w:World) (h:Rd w B A n m) (hc:Rd w Bc Ac N (lineTo S u N)) (hBm:B<=w.heap.size) (hBc:Bc<=w.heap.size) (hN:N<=4) (hat:Hid (∀ j,j<N->∃ q:Nat,lineAt S u j=(q:Int)/\q<n)) (hrng:Hid (∀ k,k<n->0<=nth m k/\nth m k<=30)) (hv:v<=4):
 Calls Tryz.prog 190 #[.slice A n c,.slice Ac N cc,.int .i64 v] w fun e w'=>(∃ p:Nat,e=.returned (.tuple #[.int .i64 p,.bool (hC m S u v N==1)])/\(hC m S u v N=1->p=hL m S u v N))/\Below w.heap.size w w':=by
 go_enter Tryz.func190,Tryz.ntmps190
 go_wp2
 go_loopw [8,9,14] (fun pl fo i wr=>∃ k p:Nat,k<=N/\i=.int .i64 k/\hC m S u v k<=1/\pl=.int .i64 p/\fo=.bool (hC m S u v k==1)/\Hid (hC m S u v k=1->p=hL m S u v k)/\Below w.heap.size w wr) (fun _ _ i _=>N-(intOf i).toNat)
 case atStart=>exact ⟨0,0,Nat.zero_le _,rfl,Nat.zero_le _,rfl,rfl,Lib.hid (fun h=>by simp [hC] at h),Below.refl _ _⟩
 case round=>
  obtain ⟨k,p,hk,rfl,hle,rfl,rfl,hp,hb⟩:=hrel
  by_cases hlt:k<N
  ·obtain ⟨q,hq,hqn⟩:=hat.out k hlt;obtain ⟨b,off,rfl,hbB,hck⟩:=(hc.below (hb.mono hBc)).at_ hlt;rw [show nth (lineTo S u N) k=(q:Int) by rw [<- hq];simp [lineTo,nth,List.getD_eq_getElem?_getD,hlt]] at hck;obtain ⟨b',off',rfl,hbB',hcm⟩:=(h.below (hb.mono hBm)).at_ hqn;obtain ⟨x0,x1⟩:=hrng.out q hqn;obtain ⟨M,hM⟩:=Int.eq_ofNat_of_zero_le x0;rw [hM] at hcm x1;have hsh:=and_pow0 M v (by omega) hv;have hbit:hB m S u v k=M.testBit v:=(by simp only [hB,hq,Int.toNat_natCast];rw [hM];simp);have hvs:v<64:=(by omega);cases hh:M.testBit v
   ·rw [hh] at hsh hbit;have H1:=Lib.hid (show hC m S u v (k+1)=hC m S u v k by simp [hC,hbit]);have H2:=Lib.hid (show hL m S u v (k+1)=hL m S u v k by simp [hL,hbit]);clear hh hbit hM hq x0
    go_wp2
    go_quiet (fail)
    go_wp2
    go_roundw
    case rel=>exact ⟨k+1,p,by omega,by go_num,by rw [H1.out];exact hle,rfl,by rw [H1.out],Lib.hid (by rw [H1.out,H2.out];exact hp.out),below_drewN hb _⟩
    case measure=>simp [intOf];omega
   ·rw [hh] at hsh hbit;have H1:=Lib.hid (show hC m S u v (k+1)=hC m S u v k+1 by simp [hC,hbit]);have H2:=Lib.hid (show hL m S u v (k+1)=q by simp [hL,hbit,hq]);clear hh hbit hM hq x0
    by_cases h1:hC m S u v k=1
    ·have Hf:=Lib.hid (show hC m S u v N≠1 by have:=hC_mono m S u v (show k+1<=N by omega);rw [H1.out] at this;omega);have f1:(hC m S u v k==1)=true:=(by simp [h1]);rw [f1];clear h1 f1
     go_wp2
     go_quiet (fail)
     go_wp2
     go_ret2
     exact ⟨⟨0,by rw [show (hC m S u v N==1)=false by simp [Hf.out]];rfl,fun h=>absurd h Hf.out⟩,below_drewN hb _⟩
    ·have h0:=Lib.hid (show hC m S u v k=0 by omega);have f1:(hC m S u v k==1)=false:=(by simp [h1]);rw [f1];clear h1 f1
     go_wp2
     go_quiet (fail)
     go_wp2
     go_roundw
     case rel=>exact ⟨k+1,q,by omega,by go_num,by rw [H1.out,h0.out];exact Nat.le_refl _,rfl,by rw [H1.out,h0.out];rfl,Lib.hid (fun _=>H2.out.symm),below_drewN hb _⟩
     case measure=>simp [intOf];omega
  ·obtain rfl:k=N:=by omega
   obtain ⟨bb,hbb⟩:∃ bb,(hC m S u v k==1)=bb:=⟨_,rfl⟩;rw [hbb]
   go_wp2
   go_ret2
   exact ⟨⟨p,by rw [hbb];rfl,hp.out⟩,hb⟩
theorem qV_step {m:List Int} {S u:Int} {N v:Nat} (h:1<=v):qV m S N u v=if hC m S u v N=1 then qV m S N u (v-1)++[(hL m S u v N,v)] else qV m S N u (v-1):=by
 obtain ⟨r,rfl⟩:∃ r,v=r+1:=⟨v-1,by omega⟩;rfl
theorem line_in {s u:Nat} (hs:s∈[2,3,4]) (hu:u<2*s):∀ j,j<s->∃ q:Nat,lineAt s u j=(q:Int)/\q<s*s:=by
 intro j hj
 simp at hs
 by_cases hx:(u:Int)<(s:Int)
 ·rw [lineAt_row hx];refine ⟨u*s+j,by simp,?_⟩
  rcases hs with rfl|rfl|rfl<;>omega
 ·rw [lineAt_col hx];refine ⟨j*s+u-s,?_,?_⟩
  ·rcases hs with rfl|rfl|rfl<;>omega
  ·rcases hs with rfl|rfl|rfl<;>omega
set_option maxHeartbeats 2000000 in
theorem hiddenIn_any (A:Option Addr) (c n B:Nat) (m:List Int) (s:Nat) (w:World) (h:Rd w B A n m) (hBm:B<=w.heap.size) (hs:s∈[2,3,4]) (hn:n=s*s) (hrng:Hid (∀ k,k<n->0<=nth m k/\nth m k<=30)):
 Calls Tryz.prog 182 #[.slice A n c,.int .i64 s] w fun e w'=>∃ A' c',e=.returned (.slice A' (qU m s s (2*s)).length c')/\OwF w' w.heap.size A' (qU m s s (2*s)).length c' (qU m s s (2*s))/\Below w.heap.size w w':=by
 have hs2:2<=s:=by simp at hs;omega
 have hs4:s<=4:=by simp at hs;omega
 have Hs:=Lib.hid hs;have Hn:=Lib.hid hn;obtain ⟨T,hT⟩:∃ T,T=2*s:=⟨_,rfl⟩;rw [<- hT];have HT:=Lib.hid hT
 have hT8:T<=8:=by omega
 clear hs hn hT
 go_enter Tryz.func182,Tryz.ntmps182
 go_wp2
 go_loopw [5,13] (fun qv i wr=>∃ (u k:Nat) (A':Option Addr) (c':Nat),u<=T/\i=.int .i64 u/\qv=.slice A' k c'/\Hid ((qU m s s u).length=k)/\OwF wr w.heap.size A' k c' (qU m s s u)/\Below w.heap.size w wr) (fun _ i _=>T-(intOf i).toNat)
 case atStart=>exact ⟨0,0,none,0,Nat.zero_le _,rfl,rfl,Lib.hid rfl,World.ownsRow_nil _ _ _ _,Below.refl _ _⟩
 case round=>
  obtain ⟨u,k,A',c',hu,rfl,rfl,hk,ho,hb⟩:=hrel
  by_cases hlt:u<T
  ·have hltI:(u:Int)<2*(s:Int):=by have:=HT.out;omega
   have HLc:Hid (Calls Tryz.prog 183 #[.int .i64 s,.int .i64 u] wr fun e w''=>∃ A3 c3,e=.returned (.slice A3 s c3)/\Ow w'' wr.heap.size A3 s c3 (lineTo s u s)/\Below wr.heap.size wr w''):=Lib.hid ((implLineCells s u wr ⟨by omega,by omega⟩).mono (by
       rintro e w'' ⟨A3,c3,rfl,ho3,hb3⟩
       have e1:lineL s u=lineTo s u s:=by
        have:lineOk s u=true:=(by have:=HT.out;simp [lineOk,inr];omega)
        simp [lineL,this]
       rw [e1,lineTo_length] at ho3;rw [e1,lineTo_length]
       exact ⟨A3,c3,rfl,ho3,hb3⟩))
   have hat:=Lib.hid (show ∀ j,j<s->∃ q:Nat,lineAt s u j=(q:Int)/\q<n by rw [Hn.out];exact line_in Hs.out (by have:=HT.out;omega));have hsw:=hb.size
   go_wp2_with (go_at_call 183;refine HLc.out.mono ?_;rintro e w3 ⟨A3,c3,rfl,ho3,hb3⟩)
   have hoq:=ho.below hb3;have hbq:=hb.trans (hb3.mono hsw);have ho3':=ho3.mono hsw
   go_loopw [5,8] (fun qv i wr=>∃ (v k:Nat) (A':Option Addr) (c':Nat),1<=v/\v<=s+1/\i=.int .i64 v/\qv=.slice A' k c'/\Hid ((qU m s s u++qV m s s u (v-1)).length=k)/\OwF wr w.heap.size A' k c' (qU m s s u++qV m s s u (v-1))/\Ow wr w.heap.size A3 s c3 (lineTo s u s)/\Below w.heap.size w wr) (fun _ i _=>s+1-(intOf i).toNat)
   case atStart=>exact ⟨1,k,A',c',by omega,by omega,rfl,rfl,Lib.hid (by simp only [Nat.sub_self,qV,List.append_nil];exact hk.out),by simp only [Nat.sub_self,qV,List.append_nil];exact hoq,ho3',hbq⟩
   case round=>
    clear ho hoq hbq ho3 ho3' hb3 hb HLc hk;obtain ⟨v,k,A',c',hv1,hv2,rfl,rfl,hk,ho,ho3,hb⟩:=hrel;have hsw:=hb.size
    by_cases hvs:v<=s
    ·have hvI:(v:Int)<=(s:Int):=(by omega);have HOP:=Lib.hid (onlyPlace_any A c n B m A3 c3 s wr.heap.size s u v wr (h.below (hb.mono hBm)) ho3.rd (Nat.le_trans hBm hb.size) (Nat.le_refl _) hs4 hat hrng (by omega))
     have hk8:k<=1099511627776:=by
      have q1:=hk.out;have q2:=qU_len m s s u;have q3:=qV_len m s s u (v-1);have q4:u*s<=8*4:=Nat.mul_le_mul (by omega) hs4;rw [List.length_append] at q1;omega
     by_cases h1:hC m s u v s=1
     ·have f1:(hC m s u v s==1)=true:=(by simp [h1]);have HQ:=Lib.hid (show qV m s s u v=qV m s s u (v-1)++[(hL m s u v s,v)] by rw [qV_step hv1,if_pos h1]);have H1:=Lib.hid h1;clear h1
      go_wp2_with (first
       |(go_at_call 190;refine HOP.out.mono ?_;rintro e w3 ⟨⟨p,rfl,hp⟩,hb3⟩;rw [f1];have ho5:=ho.below hb3;have hp':=Lib.hid (hp H1.out);clear hp;have hs3:=Nat.le_trans hsw hb3.size)
       |(at_builtin;refine push_found rfl (.tmp 32) (.tmp 36) rfl w.heap.size A' k c' _ p v rfl rfl ho5 hk8 hs3 ?_;intro A5 c5 w5 ho6 hg6))
      have ho36:=ow_own (World.ownsRow.alloc (ho3.below hb3) _) (World.ownsRow.alloc ho5 _) (by decide) hg6;have hb6:Below w.heap.size w w5:=((hb.trans (hb3.mono hsw)).alloc hs3 _).grown hg6 (by simp;omega) (fun g hg=>(World.ownsRow.lt ho5 g hg).1)
      go_roundw
      case rel=>exact ⟨v+1,k+1,A5,c5,by omega,by omega,by go_num,rfl,Lib.hid (by rw [Nat.add_sub_cancel,HQ.out,<-List.append_assoc,List.length_append,hk.out];rfl),by rw [Nat.add_sub_cancel,HQ.out,<-List.append_assoc,<-hp'.out];exact ho6,ho36,hb6⟩
      case measure=>simp [intOf];omega
     ·have f1:(hC m s u v s==1)=false:=(by simp [h1]);have HQ:=Lib.hid (show qV m s s u v=qV m s s u (v-1) by rw [qV_step hv1,if_neg h1]);clear h1
      go_wp2_with (go_at_call 190;refine HOP.out.mono ?_;rintro e w3 ⟨⟨p,rfl,_⟩,hb3⟩;rw [f1])
      go_roundw
      case rel=>exact ⟨v+1,k,A',c',by omega,by omega,by go_num,rfl,Lib.hid (by rw [Nat.add_sub_cancel,HQ.out];exact hk.out),by rw [Nat.add_sub_cancel,HQ.out];exact ho.below hb3,ho3.below hb3,step hb hb3⟩
      case measure=>simp [intOf];omega
    ·obtain rfl:v=s+1:=by omega
     have hvI:((s+1:Nat):Int)=(s:Int)+1:=(by simp);rw [Nat.add_sub_cancel] at hk ho
     go_wp2
     go_roundw
     case rel=>exact ⟨u+1,k,A',c',by omega,by go_num,rfl,hk,ho,hb⟩
     case measure=>simp [intOf];omega
  ·have hltI:¬ (u:Int)<2*(s:Int):=by have:=HT.out;omega
   obtain rfl:u=T:=by omega
   go_wp2
   go_ret
   rw [hk.out];exact ⟨_,_,rfl,ho,hb⟩
theorem OwF.set {w:World} {lo lo' g n c n' c' j:Nat} {A:Option Addr} {q:List (Nat×Nat)} {xs:List Int} (h:OwF w lo A n c q) (ho:Ow w lo' (some ⟨g,0,none⟩) n' c' xs) (v:Value):OwF (w.setCell ⟨g,j,none⟩ v) lo A n c q:=by
 refine World.ownsRow.kept h (row:=some g) grown_set ?_
 rcases h.2 with ⟨e1,_⟩|⟨g1,cap1,cur1,e1,_,hr1,_⟩
 ·rw [e1];exact .inl rfl
 ·refine .inr (fun e2=>?_);rw [e1] at e2
  have e3:g1=g:=by simpa [Value.ownBlock] using e2
  subst e3
  rcases ho.2 with ⟨e4,_⟩|⟨g2,cap2,cur2,e4,_,hr2,_⟩
  ·cases e4
  ·injection e4 with e4 _ _
   injection e4 with e4
   injection e4 with e4 _ _
   subst e4;rw [hr1] at hr2
   injection hr2 with hr2
   injection hr2 with _ h2 _
   exact absurd h2 (by decide)
theorem OwF.cells {w:World} {lo n c:Nat} {A:Option Addr} {q:List (Nat×Nat)} (h:OwF w lo A n c q) {k:Nat} (hk:k<n):∃ g,A=some ⟨g,0,none⟩/\g<w.heap.size/\w.cell? ⟨g,k*2,none⟩=some (.int .i64 ((q.getD k (0,0)).1:Int))/\w.cell? ⟨g,k*2+1,none⟩=some (.int .i64 ((q.getD k (0,0)).2:Int)):=by
 obtain ⟨g,cap,hv,_,hg⟩:=World.ownsRow.form h (by omega)
 injection hv with hA _ _
 subst hA;have hl:=h.1;rw [fl_len] at hl
 have hkq:k<q.length:=by omega
 have e:=fl_get hkq
 have hd:q.getD k (0,0)=q[k]:=by simp [List.getD_eq_getElem?_getD,hkq]
 refine ⟨g,rfl,hg,?_,?_⟩
 ·rw [hd,World.ownsRow.cellAt h (k*2) (by omega)];exact e.1
 ·rw [hd,World.ownsRow.cellAt h (k*2+1) (by omega)];exact e.2
set_option maxHeartbeats 2000000 in
theorem implNarrowHidden (A:Option Addr) (c n B:Nat) (m:List Int) (size:Int) (w:World) (h:Rd w B A n m) (hm64:B64 m) (hBm:B<=w.heap.size) (hm:n<=1099511627776) (hsb: -9223372036854775808<=size/\size<=9223372036854775807):
 Calls Tryz.prog 171 #[.slice A n c,.int .i64 size] w (RetSl w (nhL m size)):=by
 have hlen:=Lib.hid h.1;have HV:=Lib.hid (implMasksValid A c n B m size w h hm64 hBm hm hsb);cases hv:mvd m size
 ·have HL:=Lib.hid (show nhL m size=[] by simp [nhL,hv])
  go_enter Tryz.func171,Tryz.ntmps171
  go_wp2_with (go_at_call 67;refine HV.out.mono ?_;rintro e w1 ⟨rfl,hb1⟩;rw [hv])
  go_ret
  rw [HL.out];exact ⟨_,_,rfl,Ow.nil_ _ _,hb1⟩
 ·obtain ⟨⟨s2,s4⟩,hsq,hn16,hrng⟩:=mvd_at hv;rw [hlen.out] at hsq hn16 hrng;obtain ⟨s,rfl⟩:=Int.eq_ofNat_of_zero_le (by omega:0<=size)
  have hs:s∈[2,3,4]:=by simp;omega
  have hn:n=s*s:=by
   have:(n:Int)=((s*s:Nat):Int):=(by simpa using hsq);omega
  have hn0:0<n:=by
   simp at hs
   rcases hs with rfl|rfl|rfl<;>omega
  have Hrng:=Lib.hid (fun k (hk:k<n)=>(⟨(hrng k hk).1,(hrng k hk).2.1⟩:0<=nth m k/\nth m k<=30));have HCl:=Lib.hid (fun w' (hb:Below w.heap.size w w')=>clone_any A n c B m w' (h.below (hb.mono hBm)) (Nat.le_trans hBm hb.size) hn0 hm);have HHi:=Lib.hid (fun w' (hb:Below w.heap.size w w')=>hiddenIn_any A c n B m s w' (h.below (hb.mono hBm)) (Nat.le_trans hBm hb.size) hs hn Hrng)
  have Hin:=Lib.hid (qU_in (m:=m) (S:=s) (N:=s) (n:=n) (U:=2*s) (fun u hu j hj=>by
   obtain ⟨q,hq,hqn⟩:=line_in hs hu j hj
   rw [hq,hn];simpa using hqn) hn0 (2*s) (Nat.le_refl _))
  have HQ8:=Lib.hid (show (qU m s s (2*s)).length<=32 by have:=qU_len m s s (2*s);have:2*s*s<=8*4:=Nat.mul_le_mul (by omega) (by omega);omega);have HF:=Lib.hid (show nhL m s=(qU m s s (2*s)).foldl keepQ m by rw [qU_fold];simp [nhL,hv])
  have hs4':s<=4:=by omega
  obtain ⟨q,hq⟩:∃ q,q=qU m s s (2*s):=⟨_,rfl⟩;rw [<- hq] at HHi Hin HQ8 HF;obtain ⟨K,hK⟩:∃ K,K=q.length:=⟨_,rfl⟩;rw [<- hK] at HHi HQ8;have HK:=Lib.hid hK;have hK32:=HQ8.out;clear hrng hsq hq hK hn hs
  go_enter Tryz.func171,Tryz.ntmps171
  go_wp2_with (first
   |(go_at_call 67;refine HV.out.mono ?_;rintro e w1 ⟨rfl,hb1⟩;rw [hv])
   |(go_at_call 61;refine (HCl.out _ hb1).mono ?_;rintro e w2 ⟨Ac,cc,rfl,ho2,hb2⟩;have hb12:=step hb1 hb2)
   |(go_at_call 182;refine (HHi.out _ hb12).mono ?_;rintro e w3 ⟨Aq,cq,rfl,hoq,hb3⟩))
  have hb13:=step hb12 hb3;have ho3:=(ho2.mono hb1.size).below hb3;have hoq':OwF w3 w.heap.size Aq K cq q:=World.ownsRow.mono hoq hb12.size;obtain ⟨g,rfl,hgl,hgw⟩:=ho3.form hn0
  go_loopw [18] (fun i wr=>∃ k:Nat,k<=K/\i=.int .i64 k/\Ow wr w.heap.size (some ⟨g,0,none⟩) n cc ((q.take k).foldl keepQ m)/\OwF wr w.heap.size Aq K cq q/\Below w.heap.size w wr) (fun i _=>K-(intOf i).toNat)
  case atStart=>exact ⟨0,Nat.zero_le _,rfl,ho3,hoq',hb13⟩
  case round=>
   clear ho3 hoq hoq' hb13 hb12 hb1 hb2 hb3 ho2;obtain ⟨k,hk,rfl,ho,hof,hb⟩:=hrel
   by_cases hlt:k<K
   ·obtain ⟨gq,rfl,hgq,hcx,hcy⟩:=hof.cells hlt;have hkq:k<q.length:=(by rw [<- HK.out];exact hlt)
    have hmem:q.getD k (0,0)∈q:=by
     rw [List.getD_eq_getElem?_getD,List.getElem?_eq_getElem hkq];exact List.getElem_mem _
    obtain ⟨hx,hy1,hy4⟩:=Hin.out _ hmem
    have HT:=Lib.hid (show (q.take (k+1)).foldl keepQ m=((q.take k).foldl keepQ m).set (q.getD k (0,0)).1 (bits .and .i64 (nth ((q.take k).foldl keepQ m) (q.getD k (0,0)).1) (2^(q.getD k (0,0)).2)) by
     rw [List.take_add_one,List.getElem?_eq_getElem hkq]
     simp only [Option.toList_some,List.foldl_append,List.foldl_cons,List.foldl_nil,keepQ,List.getD_eq_getElem?_getD,List.getElem?_eq_getElem hkq,Option.getD_some])
    obtain ⟨x,hxe⟩:∃ x,x=(q.getD k (0,0)).1:=⟨_,rfl⟩;obtain ⟨y,hye⟩:∃ y,y=(q.getD k (0,0)).2:=⟨_,rfl⟩;rw [<- hxe] at hcx hx HT;rw [<- hye] at hcy hy1 hy4 HT;obtain ⟨o,hoe⟩:∃ o,o=(q.take k).foldl keepQ m:=⟨_,rfl⟩;rw [<- hoe] at ho HT;clear hxe hye hmem hoe;obtain ⟨hcell,hfr⟩:=ho.cell hx
    have hw2:wrap64 ((2:Int)^y)=2^y:=by
     obtain ⟨r,rfl⟩:∃ r,y=r+1:=⟨y-1,by omega⟩;exact pow_wrap5 (by omega)
    have hy64:y<64:=(by omega);have hgr:=ho.own_hi g rfl;obtain ⟨W,hW⟩:∃ W,wr.alloc (.cells #[.int .i64 (x:Int),.int .i64 (y:Int)] 186)=W:=⟨_,rfl⟩;have hoW:Ow W w.heap.size (some ⟨g,0,none⟩) n cc o:=(by rw [<- hW];exact World.ownsRow.alloc ho _);have hofW:OwF W w.heap.size (some ⟨gq,0,none⟩) K cq q:=(by rw [<- hW];exact World.ownsRow.alloc hof _);have hbW:Below w.heap.size w W:=(by rw [<- hW];exact hb.alloc hb.size _);have hz0:W.cell? ⟨wr.heap.size,0,none⟩=some (.int .i64 (x:Int)):=(by rw [<- hW];exact cell_of_row _ _ 0 _ _ (0,0) (heap_alloc_new wr _));have hz1:W.cell? ⟨wr.heap.size,1,none⟩=some (.int .i64 (y:Int)):=(by rw [<- hW];exact cell_of_row _ _ 1 _ _ (0,0) (heap_alloc_new wr _));obtain ⟨hcW,hfW⟩:=hoW.cell hx;have hput:=Lib.hid (hoW.putN x (bits .and .i64 (nth o x) (2^y)));have hofp:=Lib.hid (hofW.set (j:=x) hoW (.int .i64 (bits .and .i64 (nth o x) (2^y))));have hbp:=Lib.hid (Below.setCell (p:=(⟨g,x,none⟩:Addr)) hbW hgl (.int .i64 (bits .and .i64 (nth o x) (2^y))));have HW:=Lib.hid hW;clear hW hofW hoW hbW
    go_wp2
    rw [HW.out]
    go_region
    go_wp2
    go_roundw
    case rel=>exact ⟨k+1,by omega,by go_num,by rw [HT.out];exact hput.out,hofp.out,below_drewN hbp.out 1⟩
    case measure=>simp [intOf];omega
   ·obtain rfl:k=K:=by omega
    rw [show q.take k=q by rw [HK.out];exact List.take_length] at ho
    go_wp2
    go_ret
    rw [HF.out];exact retSl_mk ho hb
theorem an_an:∀ x,x<32->∀ y,y<32->∀ z,z<32->bits .andNot .i64 (x:Nat) (z:Nat)=0->bits .andNot .i64 (bits .andNot .i64 (x:Nat) (y:Nat)) (z:Nat)=0:=by decide +kernel
theorem an_bit:∀ x,x<32->∀ y,y<32->∀ v,v<5->(bits .andNot .i64 (x:Nat) (y:Nat)).toNat.testBit v=(x.testBit v&& !y.testBit v):=by decide +kernel
def twoB (M a b v:Nat):Bool:= !((maskVals (M:Int)).length==2&&M.testBit a&&M.testBit b&&a != b&&v != a&&v != b)|| !M.testBit v
theorem two_key:∀ M,M<32->∀ a,a<5->∀ b,b<5->∀ v,v<5->twoB M a b v=true:=by decide +kernel
theorem sol_ne {g:List Int} {s:Nat} (hs:s∈[2,3,4]) (hl:g.length=s*s) (h:sqSolved g s=true) {u:Nat} (hu:u<2*s) {i j:Nat} (hij:i≠j) (hi:i<s) (hj:j<s):lineV g s (u:Nat) i≠lineV g s (u:Nat) j:=by
 obtain ⟨h1,h2,h3⟩:=(solved_iff hl).1 h
 have hd:dupTo (lineV g s (u:Nat)) s=false:=by
  cases e:dupTo (lineV g s (u:Nat)) s
  ·rfl
  ·have:=clash_at (xs:=g) (size:=(s:Int)) (l:=u) (by omega) (by rw [Int.toNat_natCast];exact e);rw [h2] at this;cases this
 have hp:∀ k,k<s->0<lineV g s (u:Nat) k:=fun k hk=>by
  have hp:=line_at hs hu k hk;have hz:=h3 _ hp;obtain ⟨q0,_⟩:=gv_nth h1 (k:=(lineAt s u k).toNat) (by rw [hl];exact hp);unfold lineV;omega
 intro e
 have:dupTo (lineV g s (u:Nat)) s=true:=by
  rw [dupTo_iff]
  rcases Nat.lt_or_gt_of_ne hij with hlt|hlt
  ·exact ⟨i,j,hlt,hj,e,hp j hj⟩
  ·exact ⟨j,i,hlt,hi,e.symm,hp i hi⟩
 rw [hd] at this;cases this
theorem len_of {m:List Int} {s:Nat} (hs:s∈[2,3,4]) (hm:mvd m s=true):m.length=s*s:=by
 have:=(mvd_at hm).2.1
 simp at hs
 rcases hs with rfl|rfl|rfl<;>omega
theorem pIn_in {m g o:List Int} {s u a b:Nat} (hs:s∈[2,3,4]) (hm:mvd m s=true) (hsb:Sub o m) (hu:u<2*s) (hno:∀ k,k<s->k≠a->k≠b->inMask (m.set (lcN s u k) (nth m (lcN s u a))) g (lcN s u k)=false) (hg4:∀ k,k<s*s->(nth g k).toNat<5)
 (ho:∀ k,k<s*s->inMask o g k=true) (K:Nat) (hK:K<=s):∀ k,k<s*s->inMask (pIn m s u a b o K) g k=true:=by
 induction K with
 |zero=>exact ho
 |succ K ih=>
  have ih:=ih (by omega);simp only [pIn]
  split
  ·next hne=>
   have hp:lcN s u K<s*s:=line_at hs hu K (by omega);have hln:=len_of hs hm;have hsub:=pIn_sub (u:=(u:Int)) (S:=(s:Int)) (a:=a) (b:=b) hm hsb K;have hlo:(pIn m s u a b o K).length=s*s:=(by rw [hsub.1,hln]);intro k hk;unfold inMask;rw [nth_set (by rw [hlo];exact hp)]
   split
   ·next e=>
    subst e;obtain ⟨⟨x0,x1,_⟩,_⟩:=hsub.at_ hm (k:=lcN s u K) (by rw [hln];exact hp);obtain ⟨y0,y1,_⟩:=mvd_nth hm (lcN s u a);have h1:=ih _ hp;have h2:=hno K (by omega) hne.1 hne.2;unfold inMask at h1 h2;rw [nth_set (by rw [hln];exact hp),if_pos rfl] at h2;obtain ⟨x,hx⟩:=Int.eq_ofNat_of_zero_le x0;obtain ⟨y,hy⟩:=Int.eq_ofNat_of_zero_le y0;rw [hx] at h1 ⊢;rw [hy] at h2 ⊢;rw [Int.toNat_natCast] at h1 h2;rw [an_bit x (by omega) y (by omega) _ (hg4 _ hp),h1,h2];rfl
   ·exact ih k hk
  ·exact ih
theorem pB_in {m g o:List Int} {s u a:Nat} (hs:s∈[2,3,4]) (hm:mvd m s=true) (hsb:Sub o m) (hu:u<2*s) (hl:g.length=s*s) (hg:sqSolved g s=true) (hin:∀ k,k<s*s->inMask m g k=true) (ha:a<s) (ho:∀ k,k<s*s->inMask o g k=true) (b:Nat) (hb:b<=a):∀ k,k<s*s->inMask (pB m s s u a o b) g k=true:=by
 have hg4:∀ k,k<s*s->(nth g k).toNat<5:=fun k hk=>by
  obtain ⟨h1,_,_⟩:=(solved_iff hl).1 hg;obtain ⟨q0,q1⟩:=gv_nth h1 (k:=k) (by omega);have:=gv_size h1;omega
 induction b with
 |zero=>exact ho
 |succ b ih=>
  have ih:=ih (by omega);simp only [pB]
  split
  ·next hc=>
   refine pIn_in hs hm (pB_sub hm hsb b) hu (fun k hk hka hkb=>?_) hg4 ih s (Nat.le_refl _);have hln:=len_of hs hm;have hpa:lcN s u a<s*s:=line_at hs hu a ha;have hpb:lcN s u b<s*s:=line_at hs hu b (by omega);have hpk:lcN s u k<s*s:=line_at hs hu k hk;have ma:=hin _ hpa;have mb:=hin _ hpb;have n1:nth g (lcN s u a)≠nth g (lcN s u b):=sol_ne hs hl hg hu (by omega) ha (by omega);have n2:nth g (lcN s u k)≠nth g (lcN s u a):=sol_ne hs hl hg hu hka hk ha;have n3:nth g (lcN s u k)≠nth g (lcN s u b):=sol_ne hs hl hg hu hkb hk (by omega);obtain ⟨h1,_,_⟩:=(solved_iff hl).1 hg;have p1:=(gv_nth h1 (k:=lcN s u a) (by omega)).1;have p2:=(gv_nth h1 (k:=lcN s u b) (by omega)).1;have p3:=(gv_nth h1 (k:=lcN s u k) (by omega)).1;obtain ⟨y0,y1,_⟩:=mvd_nth hm (lcN s u a);unfold inMask at ma mb ⊢;rw [<- hc.1] at mb;rw [nth_set (by rw [hln];exact hpk),if_pos rfl];obtain ⟨M,hM⟩:=Int.eq_ofNat_of_zero_le y0;have h2:=hc.2;rw [hM] at ma mb h2 ⊢;rw [Int.toNat_natCast] at ma mb ⊢;have:=two_key M (by omega) _ (hg4 _ hpa) _ (hg4 _ hpb) _ (hg4 _ hpk);unfold twoB at this;rw [ma,mb,h2,bne_iff_ne.2 (show (nth g (lcN s u a)).toNat≠(nth g (lcN s u b)).toNat by omega),bne_iff_ne.2 (show (nth g (lcN s u k)).toNat≠(nth g (lcN s u a)).toNat by omega),bne_iff_ne.2 (show (nth g (lcN s u k)).toNat≠(nth g (lcN s u b)).toNat by omega)] at this
   simpa using this
  ·exact ih
theorem pA_in {m g o:List Int} {s u:Nat} (hs:s∈[2,3,4]) (hm:mvd m s=true) (hsb:Sub o m) (hu:u<2*s) (hl:g.length=s*s) (hg:sqSolved g s=true) (hin:∀ k,k<s*s->inMask m g k=true) (ho:∀ k,k<s*s->inMask o g k=true) (a:Nat) (ha:a<=s):∀ k,k<s*s->inMask (pA m s s u o a) g k=true:=by
 induction a with
 |zero=>exact ho
 |succ a ih=>
  simp only [pA];exact pB_in hs hm (pA_sub hm hsb a) hu hl hg hin (by omega) (ih (by omega)) a (Nat.le_refl _)
theorem pU_in {m g:List Int} {s:Nat} (hs:s∈[2,3,4]) (hm:mvd m s=true) (hl:g.length=s*s) (hg:sqSolved g s=true) (hin:∀ k,k<s*s->inMask m g k=true) (u:Nat) (hu:u<=2*s):∀ k,k<s*s->inMask (pU m s s u) g k=true:=by
 induction u with
 |zero=>exact hin
 |succ u ih=>
  simp only [pU];exact pA_in hs hm (pU_sub hm u) (by omega) hl hg hin (ih (by omega)) s (Nat.le_refl _)
theorem np_keeps {m g:List Int} {s:Int} (hm:mvd m s=true) (hg:sqSolved g s=true) (h:mhB m s g=true):mhB (npL m s) s g=true:=by
 obtain ⟨⟨s2,s4⟩,_,_,_⟩:=mvd_at hm;obtain ⟨t,rfl⟩:∃ t:Nat,s=t:=⟨s.toNat,by omega⟩
 have hs:t∈[2,3,4]:=by simp;omega
 simp only [mhB,Bool.and_eq_true,List.all_eq_true,List.mem_range] at h ⊢;obtain ⟨⟨_,hgv⟩,hin⟩:=h;have hlg:=gv_len hgv
 have hln:g.length=t*t:=by
  simp at hs
  rcases hs with rfl|rfl|rfl<;>omega
 refine ⟨⟨(np_sub hm).mvd_ hm,hgv⟩,?_⟩;rw [hln] at hin ⊢;have:=pU_in hs hm hln hg hin (2*t) (Nat.le_refl _);unfold npL;rw [if_pos hm,Int.toNat_natCast];exact this
theorem Wi.anput {o m:List Int} {s y:Int} (h:Wi o m) (hs:Sub o m) (hm:mvd m s=true) (hy:0<=y/\y<=30) (p:Nat):Wi (o.set p (bits .andNot .i64 (nth o p) y)) m:=fun k hk=>by
 by_cases hp:p<o.length
 ·rw [nth_set hp]
  split
  ·next e=>
   subst e;obtain ⟨⟨x0,x1,_⟩,_⟩:=hs.at_ hm hk;obtain ⟨z0,z1,_⟩:=mvd_nth hm p;have hz:=h p hk;obtain ⟨x,hx⟩:=Int.eq_ofNat_of_zero_le x0;obtain ⟨z,hzz⟩:=Int.eq_ofNat_of_zero_le z0;obtain ⟨yy,hyy⟩:=Int.eq_ofNat_of_zero_le hy.1;rw [hx,hzz] at hz ⊢;rw [hyy];exact an_an x (by omega) yy (by omega) z (by omega) hz
  ·exact h k hk
 ·rw [List.set_eq_of_length_le (by omega)];exact h k hk
theorem pIn_wi {m o:List Int} {s S u:Int} {a b:Nat} (hm:mvd m s=true) (hs:Sub o m) (h:Wi o m) (k:Nat):Wi (pIn m S u a b o k) m:=by
 induction k with
 |zero=>exact h
 |succ k ih=>
  simp only [pIn]
  split
  ·exact ih.anput (pIn_sub hm hs k) hm ⟨(mvd_nth hm _).1,(mvd_nth hm _).2.1⟩ _
  ·exact ih
theorem pB_wi {m o:List Int} {s S u:Int} {N a:Nat} (hm:mvd m s=true) (hs:Sub o m) (h:Wi o m) (b:Nat):Wi (pB m S N u a o b) m:=by
 induction b with
 |zero=>exact h
 |succ b ih=>
  simp only [pB]
  split
  ·exact pIn_wi hm (pB_sub hm hs b) ih N
  ·exact ih
theorem pA_wi {m o:List Int} {s S u:Int} {N:Nat} (hm:mvd m s=true) (hs:Sub o m) (h:Wi o m) (a:Nat):Wi (pA m S N u o a) m:=by
 induction a with
 |zero=>exact h
 |succ a ih=>simp only [pA];exact pB_wi hm (pA_sub hm hs a) ih a
theorem pU_wi {m:List Int} {s S:Int} {N:Nat} (hm:mvd m s=true) (u:Nat):Wi (pU m S N u) m:=by
 induction u with
 |zero=>exact Wi.refl hm
 |succ u ih=>simp only [pU];exact pA_wi hm (pU_sub hm u) ih N
theorem np_wi {m:List Int} {s:Int} (hm:mvd m s=true):Wi (npL m s) m:=by
 unfold npL;rw [if_pos hm];exact pU_wi hm _
def cN (v:Nat->Nat) (x:Nat):Nat->Nat
 |0=>0
 |k+1=>if v k=x then cN v x k+1 else cN v x k
def two (x:Nat):Bool:=Lib.onesCount x==2
def tkC (C:Nat->Nat) (x P:Nat):Bool:=two P&&(decide (2<C P)||(C P==2&&P != x))
def tkF (C:Nat->Nat) (x:Nat):Nat->Nat
 |0=>0
 |P+1=>if tkC C x P=true then tkF C x P|||P else tkF C x P
theorem cN_le (v:Nat->Nat) (x k:Nat):cN v x k<=k:=by
 induction k with
 |zero=>exact Nat.le_refl _
 |succ k ih=>simp only [cN];split<;>omega
theorem tkF_bit {C:Nat->Nat} {x j:Nat}:∀ K,(tkF C x K).testBit j=true↔∃ P,P<K/\tkC C x P=true/\P.testBit j=true:=by
 intro K
 induction K with
 |zero=>simp [tkF]
 |succ K ih=>
  simp only [tkF]
  constructor
  ·intro h
   split at h
   ·next hc=>
    rw [Nat.testBit_or,Bool.or_eq_true] at h
    rcases h with h|h
    ·obtain ⟨P,h1,h2⟩:=ih.1 h;exact ⟨P,by omega,h2⟩
    ·exact ⟨K,by omega,hc,h⟩
   ·obtain ⟨P,h1,h2⟩:=ih.1 h;exact ⟨P,by omega,h2⟩
  ·rintro ⟨P,h1,h2,h3⟩
   by_cases e:P=K
   ·subst e;rw [if_pos h2,Nat.testBit_or,h3,Bool.or_true]
   ·have:=ih.2 ⟨P,by omega,h2,h3⟩
    split
    ·rw [Nat.testBit_or,this,Bool.true_or]
    ·exact this
theorem tkF_lt (C:Nat->Nat) (x K:Nat) (hK:K<=32):tkF C x K<32:=by
 induction K with
 |zero=>simp [tkF]
 |succ K ih=>
  simp only [tkF]
  split
  ·exact Nat.or_lt_two_pow (n:=5) (ih (by omega)) (by omega)
  ·exact ih (by omega)
def tB (v:Nat->Nat) (k a:Nat):Nat->Nat
 |0=>0
 |b+1=>if (v a=v b/\two (v a)=true)/\(k≠a/\k≠b) then tB v k a b|||v a else tB v k a b
def tA (v:Nat->Nat) (k:Nat):Nat->Nat
 |0=>0
 |a+1=>tA v k a|||tB v k a a
theorem tB_bit {v:Nat->Nat} {k a j:Nat}:∀ b,(tB v k a b).testBit j=true↔∃ i,i<b/\v a=v i/\two (v a)=true/\k≠a/\k≠i/\(v a).testBit j=true:=by
 intro b
 induction b with
 |zero=>simp [tB]
 |succ b ih=>
  simp only [tB]
  constructor
  ·intro h
   split at h
   ·next hc=>
    rw [Nat.testBit_or,Bool.or_eq_true] at h
    rcases h with h|h
    ·obtain ⟨i,h1,h2⟩:=ih.1 h;exact ⟨i,by omega,h2⟩
    ·exact ⟨b,by omega,hc.1.1,hc.1.2,hc.2.1,hc.2.2,h⟩
   ·obtain ⟨i,h1,h2⟩:=ih.1 h;exact ⟨i,by omega,h2⟩
  ·rintro ⟨i,h1,h2,h3,h4,h5,h6⟩
   by_cases e:i=b
   ·subst e;rw [if_pos ⟨⟨h2,h3⟩,h4,h5⟩,Nat.testBit_or,h6,Bool.or_true]
   ·have:=ih.2 ⟨i,by omega,h2,h3,h4,h5,h6⟩
    split
    ·rw [Nat.testBit_or,this,Bool.true_or]
    ·exact this
theorem tA_bit {v:Nat->Nat} {k j:Nat}:∀ n,(tA v k n).testBit j=true↔∃ a b,a<n/\b<a/\v a=v b/\two (v a)=true/\k≠a/\k≠b/\(v a).testBit j=true:=by
 intro n
 induction n with
 |zero=>simp [tA]
 |succ n ih=>
  simp only [tA];rw [Nat.testBit_or,Bool.or_eq_true,ih,tB_bit]
  constructor
  ·rintro (⟨a,b,h1,h2⟩|⟨i,h1,h2⟩)
   ·exact ⟨a,b,by omega,h2⟩
   ·exact ⟨n,i,by omega,h1,h2⟩
  ·rintro ⟨a,b,h1,h2,h3⟩
   by_cases e:a=n
   ·subst e;exact .inr ⟨b,h2,h3⟩
   ·exact .inl ⟨a,b,by omega,h2,h3⟩
theorem tB_lt {v:Nat->Nat} {k a:Nat} (ha:v a<32) (b:Nat):tB v k a b<32:=by
 induction b with
 |zero=>simp [tB]
 |succ b ih=>
  simp only [tB]
  split
  ·exact Nat.or_lt_two_pow (n:=5) ih ha
  ·exact ih
theorem tA_lt {v:Nat->Nat} {k:Nat} (n:Nat) (hv:∀ i,i<n->v i<32):tA v k n<32:=by
 induction n with
 |zero=>simp [tA]
 |succ n ih=>exact Nat.or_lt_two_pow (n:=5) (ih fun i hi=>hv i (by omega)) (tB_lt (hv n (by omega)) n)
def cX (v:Nat->Nat) (P k:Nat):Nat->Nat
 |0=>0
 |a+1=>if v a=P/\k≠a then cX v P k a+1 else cX v P k a
theorem cX_pos {v:Nat->Nat} {P k:Nat}:∀ n,1<=cX v P k n↔∃ b,b<n/\v b=P/\k≠b:=by
 intro n
 induction n with
 |zero=>simp [cX]
 |succ n ih=>
  simp only [cX]
  constructor
  ·intro h
   split at h
   ·next hc=>exact ⟨n,by omega,hc⟩
   ·obtain ⟨b,h1,h2⟩:=ih.1 h;exact ⟨b,by omega,h2⟩
  ·rintro ⟨b,h1,h2⟩
   by_cases e:b=n
   ·subst e;rw [if_pos h2];omega
   ·have:=ih.2 ⟨b,by omega,h2⟩
    split<;>omega
theorem cX_two {v:Nat->Nat} {P k:Nat}:∀ n,2<=cX v P k n↔∃ a b,a<n/\b<a/\v a=P/\v b=P/\k≠a/\k≠b:=by
 intro n
 induction n with
 |zero=>simp [cX]
 |succ n ih=>
  simp only [cX]
  constructor
  ·intro h
   split at h
   ·next hc=>
    obtain ⟨b,h1,h2,h3⟩:=(cX_pos (v:=v) (P:=P) (k:=k) n).1 (by omega);exact ⟨n,b,by omega,h1,hc.1,h2,hc.2,h3⟩
   ·obtain ⟨a,b,h1,h2⟩:=ih.1 h;exact ⟨a,b,by omega,h2⟩
  ·rintro ⟨a,b,h1,h2,h3,h4,h5,h6⟩
   by_cases e:a=n
   ·subst e;have:=(cX_pos a).2 ⟨b,h2,h4,h6⟩;rw [if_pos ⟨h3,h5⟩];omega
   ·have:=ih.2 ⟨a,b,by omega,h2,h3,h4,h5,h6⟩
    split<;>omega
theorem cN_X {v:Nat->Nat} {P k:Nat}:∀ n,cN v P n=cX v P k n+if k<n/\v k=P then 1 else 0:=by
 intro n
 induction n with
 |zero=>simp [cN,cX]
 |succ n ih=>
  by_cases e:k=n
  ·subst e;have e1:(if k<k/\v k=P then 1 else 0)=0:=if_neg (fun h=>absurd h.1 (by omega));rw [e1] at ih;have e2:cX v P k (k+1)=cX v P k k:=(by simp only [cX];rw [if_neg (fun h=>h.2 rfl)]);rw [e2];simp only [cN]
   by_cases h:v k=P
   ·rw [if_pos h,if_pos ⟨by omega,h⟩];omega
   ·rw [if_neg h,if_neg (fun h'=>h h'.2)];omega
  ·have e3:(if k<n+1/\v k=P then 1 else 0)=if k<n/\v k=P then 1 else 0:=by
    by_cases h2:k<n/\v k=P
    ·rw [if_pos h2,if_pos ⟨by omega,h2.2⟩]
    ·rw [if_neg h2,if_neg (fun h'=>h2 ⟨by omega,h'.2⟩)]
   rw [e3];simp only [cN,cX]
   by_cases h:v n=P
   ·rw [if_pos h,if_pos ⟨h,e⟩];omega
   ·rw [if_neg h,if_neg (fun h'=>h h'.1)];exact ih
theorem tk_is {v:Nat->Nat} {k N:Nat} (hk:k<N) (hv:∀ i,i<N->v i<32):tkF (fun x=>cN v x N) (v k) 32=tA v k N:=by
 apply Nat.eq_of_testBit_eq
 intro j;rw [Bool.eq_iff_iff,tkF_bit,tA_bit]
 have key:∀ P,tkC (fun x=>cN v x N) (v k) P=true↔two P=true/\2<=cX v P k N:=fun P=>by
  have h:=cN_X (v:=v) (P:=P) (k:=k) N;simp only [tkC,Bool.and_eq_true,Bool.or_eq_true,decide_eq_true_eq,beq_iff_eq,bne_iff_ne]
  by_cases e:v k=P
  ·rw [if_pos ⟨hk,e⟩] at h
   constructor
   ·rintro ⟨h1,h2|h2⟩
    ·exact ⟨h1,by omega⟩
    ·exact absurd e.symm h2.2
   ·rintro ⟨h1,h2⟩;exact ⟨h1,.inl (by omega)⟩
  ·rw [if_neg (fun h'=>e h'.2)] at h
   constructor
   ·rintro ⟨h1,h2|h2⟩
    ·exact ⟨h1,by omega⟩
    ·exact ⟨h1,by omega⟩
   ·rintro ⟨h1,h2⟩;refine ⟨h1,?_⟩
    by_cases h3:2<cN v P N
    ·exact .inl h3
    ·exact .inr ⟨by omega,fun e'=>e e'.symm⟩
 constructor
 ·rintro ⟨P,h1,h2,h3⟩;obtain ⟨h4,h5⟩:=(key P).1 h2;obtain ⟨a,b,ha,hb,ea,eb,na,nb⟩:=(cX_two N).1 h5;exact ⟨a,b,ha,hb,by rw [ea,eb],by rw [ea];exact h4,na,nb,by rw [ea];exact h3⟩
 ·rintro ⟨a,b,ha,hb,e,h2,na,nb,h3⟩;exact ⟨v a,hv a ha,(key _).2 ⟨h2,(cX_two N).2 ⟨a,b,ha,hb,rfl,e.symm,na,nb⟩⟩,h3⟩
def lv (m:List Int) (S u:Int) (k:Nat):Nat:=(nth m (lcN S u k)).toNat
theorem lv_lt {m:List Int} {S u:Int} {s:Int} (hm:mvd m s=true) (k:Nat):lv m S u k<32:=by
 have:=mvd_nth hm (lcN S u k);unfold lv;omega
theorem lv_int {m:List Int} {S u:Int} {s:Int} (hm:mvd m s=true) (k:Nat):nth m (lcN S u k)=(lv m S u k:Nat):=by
 have:=mvd_nth hm (lcN S u k);unfold lv;omega
theorem lv_even {m:List Int} {S u:Int} {s:Int} (hm:mvd m s=true) (k:Nat):lv m S u k%2=0:=by
 obtain ⟨h0,h1,h2⟩:=mvd_nth hm (lcN S u k);rw [Int.tmod_eq_emod_of_nonneg h0] at h2;unfold lv;omega
theorem mv_two {M:Nat} (h:M<32) (he:M%2=0):(maskVals (M:Int)).length=2↔two M=true:=by
 have e:maskVals (M:Int)=bitsTo M 4:=by
  simp only [maskVals];rw [if_pos (by simp only [mvOk,inr,Bool.and_eq_true,decide_eq_true_eq,beq_iff_eq];exact ⟨⟨by omega,by omega⟩,by rw [Int.tmod_eq_emod_of_nonneg (by omega)];omega⟩),Int.toNat_natCast]
 rw [e,<-ones_bits M h he,two,beq_iff_eq]
theorem cond_is {m:List Int} {S u s:Int} (hm:mvd m s=true) (a b:Nat):(nth m (lcN S u a)=nth m (lcN S u b)/\(maskVals (nth m (lcN S u a))).length=2)↔(lv m S u a=lv m S u b/\two (lv m S u a)=true):=by
 rw [lv_int hm a,lv_int hm b,mv_two (lv_lt hm a) (lv_even hm a)]
 constructor
 ·rintro ⟨h1,h2⟩;exact ⟨by omega,h2⟩
 ·rintro ⟨h1,h2⟩;exact ⟨by omega,h2⟩
theorem an_or:∀ x,x<32->∀ y,y<32->∀ z,z<32->bits .andNot .i64 (bits .andNot .i64 (x:Nat) (y:Nat)) (z:Nat)=bits .andNot .i64 (x:Nat) ((y|||z:Nat):Int):=by decide +kernel
theorem an_nil:∀ x,x<32->bits .andNot .i64 (x:Nat) 0=(x:Nat):=by decide +kernel
theorem lc_inj {s u:Nat} (hs:s∈[2,3,4]) {i j:Nat} (hi:i<s) (hj:j<s) (h:lcN s u i=lcN s u j):i=j:=by
 simp only [lcN] at h
 simp at hs
 by_cases hx:(u:Int)<(s:Int)
 ·rw [lineAt_row hx,lineAt_row hx] at h
  rcases hs with rfl|rfl|rfl<;>omega
 ·rw [lineAt_col hx,lineAt_col hx] at h
  rcases hs with rfl|rfl|rfl<;>omega
theorem pIn_nth {m o:List Int} {s u a b:Nat} (hs:s∈[2,3,4]) (hu:u<2*s) (hl:o.length=s*s) {k:Nat} (hk:k<s) (K:Nat) (hK:K<=s):
 nth (pIn m s u a b o K) (lcN s u k)=if k<K/\(k≠a/\k≠b) then bits .andNot .i64 (nth o (lcN s u k)) (nth m (lcN s u a)) else nth o (lcN s u k):=by
 induction K with
 |zero=>simp [pIn]
 |succ K ih=>
  have ih:=ih (by omega);simp only [pIn];have hp:lcN s u K<s*s:=line_at hs hu K (by omega)
  by_cases e:k=K
  ·subst e;rw [if_neg (fun h=>absurd h.1 (by omega))] at ih
   by_cases hc:k≠a/\k≠b
   ·rw [if_pos hc,if_pos ⟨by omega,hc⟩,nth_set (by rw [pIn_len,hl];exact hp),if_pos rfl,ih]
   ·rw [if_neg hc,if_neg (fun h=>hc h.2),ih]
  ·have hne:lcN s u K≠lcN s u k:=fun h=>e (lc_inj hs hk (by omega) h.symm)
   have h2:nth (if K≠a/\K≠b then (pIn m s u a b o K).set (lcN s u K) (bits .andNot .i64 (nth (pIn m s u a b o K) (lcN s u K)) (nth m (lcN s u a))) else pIn m s u a b o K) (lcN s u k)=nth (pIn m s u a b o K) (lcN s u k):=by
    split
    ·rw [nth_set (by rw [pIn_len,hl];exact hp),if_neg hne]
    ·rfl
   rw [h2,ih]
   by_cases hc:k<K/\(k≠a/\k≠b)
   ·rw [if_pos hc,if_pos ⟨by omega,hc.2⟩]
   ·rw [if_neg hc,if_neg (fun h=>hc ⟨by omega,h.2⟩)]
theorem pIn_off {m o:List Int} {s u a b:Nat} (hs:s∈[2,3,4]) (hu:u<2*s) (hl:o.length=s*s) {p:Nat} (hp:∀ k,k<s->lcN s u k≠p) (K:Nat) (hK:K<=s):nth (pIn m s u a b o K) p=nth o p:=by
 induction K with
 |zero=>rfl
 |succ K ih=>
  simp only [pIn]
  split
  ·rw [nth_set (by rw [pIn_len,hl];exact line_at hs hu K (by omega)),if_neg (hp K (by omega)),ih (by omega)]
  ·exact ih (by omega)
theorem pB_nth {m o:List Int} {s u a:Nat} (hs:s∈[2,3,4]) (hm:mvd m s=true) (hu:u<2*s) (hl:o.length=s*s) {k X:Nat} (hk:k<s) (hX:X<32) (ho:nth o (lcN s u k)=(X:Nat)) (b:Nat):
 nth (pB m s s u a o b) (lcN s u k)=bits .andNot .i64 (X:Nat) ((tB (lv m s u) k a b:Nat):Int):=by
 induction b with
 |zero=>simp only [pB,tB];rw [ho];exact (an_nil X hX).symm
 |succ b ih=>
  simp only [pB,tB]
  by_cases hc:lv m s u a=lv m s u b/\two (lv m s u a)=true
  ·rw [if_pos ((cond_is hm a b).2 hc),pIn_nth hs hu (by rw [pB_len,hl]) hk s (Nat.le_refl _),ih]
   by_cases hk2:k≠a/\k≠b
   ·rw [if_pos ⟨hk,hk2⟩,if_pos ⟨hc,hk2⟩,lv_int hm a];exact an_or X hX _ (tB_lt (lv_lt hm a) b) _ (lv_lt hm a)
   ·rw [if_neg (fun h=>hk2 h.2),if_neg (fun h=>hk2 h.2)]
  ·rw [if_neg (fun h=>hc ((cond_is hm a b).1 h)),if_neg (fun h=>hc h.1),ih]
theorem pB_off {m o:List Int} {s u a:Nat} (hs:s∈[2,3,4]) (hu:u<2*s) (hl:o.length=s*s) {p:Nat} (hp:∀ k,k<s->lcN s u k≠p) (b:Nat):nth (pB m s s u a o b) p=nth o p:=by
 induction b with
 |zero=>rfl
 |succ b ih=>
  simp only [pB]
  split
  ·rw [pIn_off hs hu (by rw [pB_len,hl]) hp s (Nat.le_refl _),ih]
  ·exact ih
theorem anN_lt:∀ x,x<32->∀ y,y<32->∃ z,z<32/\bits .andNot .i64 (x:Nat) (y:Nat)=(z:Nat):=fun x hx y hy=>by
 obtain ⟨q1,q2,_⟩:=an_key x hx y hy;exact ⟨(bits .andNot .i64 (x:Nat) (y:Nat)).toNat,by omega,by omega⟩
theorem pA_nth {m o:List Int} {s u:Nat} (hs:s∈[2,3,4]) (hm:mvd m s=true) (hu:u<2*s) (hl:o.length=s*s) {k X:Nat} (hk:k<s) (hX:X<32) (ho:nth o (lcN s u k)=(X:Nat)) (a:Nat):
 nth (pA m s s u o a) (lcN s u k)=bits .andNot .i64 (X:Nat) ((tA (lv m s u) k a:Nat):Int):=by
 induction a with
 |zero=>simp only [pA,tA];rw [ho];exact (an_nil X hX).symm
 |succ a ih=>
  simp only [pA,tA]
  have hA:tA (lv m s u) k a<32:=tA_lt a fun i _=>lv_lt hm i
  obtain ⟨z,hz,ez⟩:=anN_lt X hX _ hA;rw [pB_nth hs hm hu (by rw [pA_len,hl]) hk hz (by rw [ih,ez]) a,<-ez];exact an_or X hX _ hA _ (tB_lt (lv_lt hm a) a)
theorem pA_off {m o:List Int} {s u:Nat} (hs:s∈[2,3,4]) (hu:u<2*s) (hl:o.length=s*s) {p:Nat} (hp:∀ k,k<s->lcN s u k≠p) (a:Nat):nth (pA m s s u o a) p=nth o p:=by
 induction a with
 |zero=>rfl
 |succ a ih=>simp only [pA];rw [pB_off hs hu (by rw [pA_len,hl]) hp a,ih]
def gL (m:List Int) (S u:Int) (C:Nat->Nat) (o:List Int):Nat->List Int
 |0=>o
 |k+1=>(gL m S u C o k).set (lcN S u k) (bits .andNot .i64 (nth (gL m S u C o k) (lcN S u k)) ((tkF C (lv m S u k) 32:Nat):Int))
theorem gL_len (m:List Int) (S u:Int) (C:Nat->Nat) (o:List Int) (k:Nat):(gL m S u C o k).length=o.length:=by
 induction k with
 |zero=>rfl
 |succ k ih=>simp only [gL];rw [List.length_set,ih]
theorem gL_nth {m o:List Int} {s u:Nat} {C:Nat->Nat} (hs:s∈[2,3,4]) (hu:u<2*s) (hl:o.length=s*s) {k:Nat} (hk:k<s) (K:Nat) (hK:K<=s):
 nth (gL m s u C o K) (lcN s u k)=if k<K then bits .andNot .i64 (nth o (lcN s u k)) ((tkF C (lv m s u k) 32:Nat):Int) else nth o (lcN s u k):=by
 induction K with
 |zero=>simp [gL]
 |succ K ih=>
  have ih:=ih (by omega);simp only [gL];rw [nth_set (by rw [gL_len,hl];exact line_at hs hu K (by omega))]
  by_cases e:k=K
  ·subst e;rw [if_neg (by omega)] at ih;rw [if_pos rfl,if_pos (by omega),ih]
  ·rw [if_neg (fun h=>e (lc_inj hs hk (by omega) h.symm)),ih]
   by_cases h:k<K
   ·rw [if_pos h,if_pos (by omega)]
   ·rw [if_neg h,if_neg (by omega)]
theorem gL_off {m o:List Int} {s u:Nat} {C:Nat->Nat} (hs:s∈[2,3,4]) (hu:u<2*s) (hl:o.length=s*s) {p:Nat} (hp:∀ k,k<s->lcN s u k≠p) (K:Nat) (hK:K<=s):nth (gL m s u C o K) p=nth o p:=by
 induction K with
 |zero=>rfl
 |succ K ih=>simp only [gL];rw [nth_set (by rw [gL_len,hl];exact line_at hs hu K (by omega)),if_neg (hp K (by omega)),ih (by omega)]
theorem gL_is {m o:List Int} {s u:Nat} (hs:s∈[2,3,4]) (hm:mvd m s=true) (hu:u<2*s) (ho:Sub o m):gL m s u (fun x=>cN (lv m s u) x s) o s=pA m s s u o s:=by
 have hln:=len_of hs hm
 have hl:o.length=s*s:=by rw [ho.1,hln]
 apply ext_nth
 ·rw [gL_len,pA_len]
 ·intro p hp;rw [gL_len,hl] at hp
  by_cases h:∃ k,k<s/\lcN s u k=p
  ·obtain ⟨k,hk,rfl⟩:=h;obtain ⟨⟨x0,x1,_⟩,_⟩:=ho.at_ hm (k:=lcN s u k) (by rw [hln];exact hp);obtain ⟨X,hX⟩:=Int.eq_ofNat_of_zero_le x0;rw [gL_nth hs hu hl hk s (Nat.le_refl _),if_pos hk,pA_nth hs hm hu hl hk (by omega) hX s,hX,tk_is hk (fun i _=>lv_lt hm i)]
  ·have hp':∀ k,k<s->lcN s u k≠p:=fun k hk e=>h ⟨k,hk,e⟩
   rw [gL_off hs hu hl hp' s (Nat.le_refl _),pA_off hs hu hl hp' s]
def gU (m:List Int) (N:Nat):Nat->List Int
 |0=>m
 |u+1=>gL m N u (fun x=>cN (lv m N u) x N) (gU m N u) N
theorem gU_is {m:List Int} {s:Nat} (hs:s∈[2,3,4]) (hm:mvd m s=true):∀ u,u<=2*s->gU m s u=pU m s s u:=by
 intro u
 induction u with
 |zero=>intro _;rfl
 |succ u ih=>
  intro hu;simp only [gU,pU];rw [ih (by omega)];exact gL_is hs hm (by omega) (pU_sub hm u)
end Go.Proofs.YtlnmioijgclndaaGreatDoor
