import Derived.Test.YtkeoflnmbcdmfaaGreatDoorPz
import Derived.Test.YtkeoflnmbcdmfaaGreatDoorPn
set_option maxRecDepth 8000
namespace Go.Proofs.YtkeoflnmbcdmfaaGreatDoor
open Go.ChangeShapes Go.WideShapes Go.ChangeAt Go.RowKit
theorem rule_info (k:Int) (A:Option Addr) (n c:Nat) (v:Int):(Tryz.prog.info? 88).map (·.size)=some (#[Value.int .i64 k,.slice A n c,.int .i64 v]:Array Value).size:=by
 show _=some 3
 kernel_rfl
theorem rule_one (k:Int) (A:Option Addr) (n c:Nat) (v:Int):(#[Value.int .i64 k,.slice A n c,.int .i64 v]:Array Value).all (·.oneCell')=true:=by simp [Value.oneCell']
set_option maxHeartbeats 1000000 in
theorem specOwnRule (k:Int) (A:Option Addr) (n c B:Nat) (xs:List Int) (v:Int) (w:World) (h:Rd w B A n xs) (hB:B<=w.heap.size) (hm:n<=1099511627776):
 Calls Tryz.prog 140 #[.agg #[.int .i64 k,.slice A n c,.int .i64 v]] w fun e w'=>∃ A' c',e=.returned (.agg #[.int .i64 k,.slice A' n c',.int .i64 v])/\Ow w' w.heap.size A' n c' xs/\Below w.heap.size w w':=by
 have Hone:=Lib.hid rule_one;have Hi:=Lib.hid rule_info;have hx0:=rbox_new w k A n c v 88;have hb0:Below w.heap.size w (w.alloc (.cells #[.int .i64 k,.slice A n c,.int .i64 v] 88)):=(Below.refl _ _).alloc (Nat.le_refl _) _
 have hs0:w.heap.size<(w.alloc (.cells #[.int .i64 k,.slice A n c,.int .i64 v] 88)).heap.size:=by simp
 obtain ⟨V,hV⟩:∃ V,V=((w.alloc (.cells #[.int .i64 k,.slice A n c,.int .i64 v] 88)).alloc (.cells #[.int .i64 0,.slice none 0 0,.int .i64 0] 88)).alloc (.cells #[.int .i64 k,.slice A n c,.int .i64 v] 88):=⟨_,rfl⟩
 have hbV:Below w.heap.size w V:=by rw [hV];exact (hb0.alloc hb0.size _).alloc (by simp;omega) _
 have hsV:V.heap.size=w.heap.size+1+1+1:=by rw [hV];simp
 have hv2:V.heap[w.heap.size+1+1]? =some (.cells #[.int .i64 k,.slice A n c,.int .i64 v] 88):=by
  have:=heap_alloc2_new (w.alloc (.cells #[.int .i64 k,.slice A n c,.int .i64 v] 88)) (.cells #[.int .i64 0,.slice none 0 0,.int .i64 0] 88) (.cells #[.int .i64 k,.slice A n c,.int .i64 v] 88);rw [World.size_alloc] at this;rw [hV];exact this
 have hv1:V.heap[w.heap.size+1]? =some (.cells #[.int .i64 0,.slice none 0 0,.int .i64 0] 88):=by
  have:=heap_alloc2_old (w.alloc (.cells #[.int .i64 k,.slice A n c,.int .i64 v] 88)) (.cells #[.int .i64 0,.slice none 0 0,.int .i64 0] 88) (.cells #[.int .i64 k,.slice A n c,.int .i64 v] 88);rw [World.size_alloc] at this;rw [hV];exact this
 have HO:Hid (Ow (V.alloc (.cells #[] 3)) (w.heap.size+1+1+1) (some ⟨w.heap.size+1+1+1,0,none⟩) 0 0 []):=Lib.hid (by
  have:=Ow.made0 V (w.heap.size+1+1+1) (by omega);rw [hsV] at this
  exact this)
 have hbO:Below V.heap.size V (V.alloc (.cells #[] 3)):=(Below.refl _ _).alloc (Nat.le_refl _) _
 have hwV:w.heap.size<=V.heap.size:=by omega
 have HR:=Lib.hid ((h.below (hbV.mono hB)).below (hbO.mono (Nat.le_trans hB hwV)))
 have hsO:w.heap.size+1+1+1<=(V.alloc (.cells #[] 3)).heap.size:=by simp;omega
 have hwV1:w.heap.size+1<V.heap.size:=by omega
 have hwV2:w.heap.size+1+1<V.heap.size:=by omega
 have hne12:w.heap.size+1≠w.heap.size+1+1:=by omega
 have hwV0:w.heap.size<V.heap.size:=by omega
 have HV:=Lib.hid hV;clear hV
 go_enter Tryz.func140,Tryz.ntmps140
 go_wp2_with (first
  |(at_builtin;(rw [<- HV.out]);(refine push_new rfl (.tmp 5) (.tmp 7) rfl (w.heap.size+1+1+1) (some ⟨w.heap.size+1+1+1,0,none⟩) A n c B xs rfl rfl HO.out HR.out hm hsO ?_);intro A1 c1 w1 ho1 hg1;have hbw1:Below V.heap.size V w1:=hbO.grown hg1 hbO.size (fun k hk=>Nat.le_trans (Nat.le_of_eq hsV) (HO.out.own_lo k hk));have f1:=(hbw1.block (w.heap.size+1) hwV1).trans hv1;have f2:=(hbw1.block (w.heap.size+1+1) hwV2).trans hv2;have g1:=(heap_setCell_other w1 ⟨w.heap.size+1+1,1,none⟩ (w.heap.size+1) (.slice A1 n c1) hne12).trans f1;have g2:=heap_setCell_same w1 (w.heap.size+1+1) 1 _ _ (.slice A1 n c1) f2;(have fz:=frozen_of_row w1 (w.heap.size+1+1) 1 _ _ f2);have m0:w1.cell? ⟨w.heap.size+1+1,0,none⟩=some (.int .i64 k):=cell_of_row _ _ 0 _ _ (0,0) f2;have m1:w1.cell? ⟨w.heap.size+1+1,1,none⟩=some (.slice A n c):=cell_of_row _ _ 1 _ _ (0,0) f2;have m2:w1.cell? ⟨w.heap.size+1+1,2,none⟩=some (.int .i64 v):=cell_of_row _ _ 2 _ _ (0,0) f2;have k0:(w1.setCell ⟨w.heap.size+1+1,1,none⟩ (.slice A1 n c1)).cell? ⟨w.heap.size+1+1,0,none⟩=some (.int .i64 k):=cell_of_row _ _ 0 _ _ (0,0) g2;have k1:(w1.setCell ⟨w.heap.size+1+1,1,none⟩ (.slice A1 n c1)).cell? ⟨w.heap.size+1+1,1,none⟩=some (.slice A1 n c1):=cell_of_row _ _ 1 _ _ (0,0) g2;have k2:(w1.setCell ⟨w.heap.size+1+1,1,none⟩ (.slice A1 n c1)).cell? ⟨w.heap.size+1+1,2,none⟩=some (.int .i64 v):=cell_of_row _ _ 2 _ _ (0,0) g2)
  |((refine wpList_load_row rfl 88 _ rfl (w.heap.size+1+1) rfl 88 #[.int .i64 k,.slice A1 n c1,.int .i64 v] (0,0) _ g2 Tryz.underlying88 rfl (Hi.out _ _ _ _ _) ?_))
  |((refine wpList_store_row rfl 88 _ _ rfl (w.heap.size+1) #[.int .i64 k,.slice A1 n c1,.int .i64 v] rfl rfl 88 #[.int .i64 0,.slice none 0 0,.int .i64 0] g1 (Hi.out _ _ _ _ _) rfl (Hone.out _ _ _ _ _) ?_)))
 have hB2:Below w.heap.size w ((w1.setCell ⟨w.heap.size+1+1,1,none⟩ (.slice A1 n c1)).setRow (w.heap.size+1) #[.int .i64 k,.slice A1 n c1,.int .i64 v]):=setRow_below5 ((hbV.trans (hbw1.mono hwV)).setCell (show w.heap.size<=w.heap.size+1+1 by omega) _) (by omega);have ho2:Ow (w1.setCell ⟨w.heap.size+1+1,1,none⟩ (.slice A1 n c1)) (w.heap.size+1+1+1) A1 n c1 xs:=ho1.far (row:=some (w.heap.size+1+1)) grown_set (fun b hb e=>by have:=ho1.own_lo b hb;injection e with e;omega);refine bodyPost_ret (v:=.agg #[.int .i64 k,.slice A1 n c1,.int .i64 v]) (results_cell_row (by rfl) _ _ (w.heap.size+1) 88 _ (0,0) _ rfl (setRow_heap _ _ _ _ _ _ g1) Tryz.underlying88 rfl (Hi.out _ _ _ _ _)) rfl ⟨_,_,rfl,(ho2.row5 (fun b hb=>?_)).mono (by omega),hB2⟩
 have:=ho2.own_lo b hb;omega
end Go.Proofs.YtkeoflnmbcdmfaaGreatDoor
