import Derived.Test.YtkeoflnmbcdmfaaGreatDoorR4H
namespace Go.Proofs.YtkeoflnmbcdmfaaGreatDoor
open Go.ChangeShapes Go.WideShapes Go.ChangeAt Go.RowKit
def ofk (k:Int) (v:Value):Value:=if k=1 then .iface 183 v else if k=2 then .iface 184 v else if k=3 then .iface 185 v else if k=4 then .iface 186 v else if k=5 then .iface 187 v else .nilIface
def rval (k:Int) (A:Option Addr) (n c:Nat) (v:Int):Value:=.agg #[.int .i64 k,.slice A n c,.int .i64 v]
theorem ofKind_any (A:Option Addr) (c n:Nat) (k v:Int) (w:World):
 Calls Tryz.prog 175 #[.agg #[.int .i64 k,.slice A n c,.int .i64 v]] w fun e w'=>e=.returned (ofk k (rval k A n c v))/\Below w.heap.size w w':=by
 have hx0:=rbox_new w k A n c v 88;have hb0:Below w.heap.size w (w.alloc (.cells #[.int .i64 k,.slice A n c,.int .i64 v] 88)):=(Below.refl _ _).alloc (Nat.le_refl _) _;obtain ⟨c0,c1,c2⟩:=hx0
 have hcase:k=1\/k=2\/k=3\/k=4\/k=5\/((k==1)=false/\(k==2)=false/\(k==3)=false/\(k==4)=false/\(k==5)=false):=by simp only [beq_eq_false_iff_ne];omega
 rcases hcase with rfl|rfl|rfl|rfl|rfl|⟨e1,e2,e3,e4,e5⟩
 ·go_enter Tryz.func175,Tryz.ntmps175
  go_wp2
  go_ret
  exact ⟨rfl,hb0⟩
 ·go_enter Tryz.func175,Tryz.ntmps175
  go_wp2
  go_ret
  exact ⟨rfl,hb0⟩
 ·go_enter Tryz.func175,Tryz.ntmps175
  go_wp2
  go_ret
  exact ⟨rfl,hb0⟩
 ·go_enter Tryz.func175,Tryz.ntmps175
  go_wp2
  go_ret
  exact ⟨rfl,hb0⟩
 ·go_enter Tryz.func175,Tryz.ntmps175
  go_wp2
  go_ret
  exact ⟨rfl,hb0⟩
 ·have HL:Hid (ofk k (rval k A n c v)=.nilIface):=Lib.hid (by
   unfold ofk
   rw [if_neg (by simpa using e1),if_neg (by simpa using e2),if_neg (by simpa using e3),if_neg (by simpa using e4),if_neg (by simpa using e5)])
  go_enter Tryz.func175,Tryz.ntmps175
  go_wp2
  go_ret
  exact ⟨by rw [HL.out];rfl,hb0⟩
end Go.Proofs.YtkeoflnmbcdmfaaGreatDoor
