import Derived.Test.YtkeoflnmbcdmfaaGreatDoorBase
set_option maxRecDepth 8000
namespace Go.Proofs.YtkeoflnmbcdmfaaGreatDoor
open Go.ChangeShapes Go.WideShapes Go.ChangeAt Go.RowKit
def pks (g xs:List Int) (n:Nat):List Int:=mapTo (fun k=>nth g (nth xs k).toNat) n
theorem pks_length (g xs:List Int) (n:Nat):(pks g xs n).length=n:=mapTo_length _ _
theorem pks_nth {g xs:List Int} {n k:Nat} (h:k<n):nth (pks g xs n) k=nth g (nth xs k).toNat:=mapTo_nth h
set_option maxHeartbeats 1000000 in
theorem implPick (Ag:Option Addr) (cg ng Bg:Nat) (g:List Int) (A:Option Addr) (c n B:Nat) (xs:List Int) (w:World) (hg:Rd w Bg Ag ng g) (h:Rd w B A n xs) (hBg:Bg<=w.heap.size) (hB:B<=w.heap.size) (hm:n<=1099511627776) (hx:∀ i,i<n->0<=nth xs i/\nth xs i<ng):
 Calls Tryz.prog 181 #[.slice Ag ng cg,.slice A n c] w (RetSl w (pks g xs n)):=by
 obtain ⟨i0,hi,hz0,hz1,hz2⟩:=info_parts int_info;have hpl:=Lib.hid (pks_length g xs n);have Hx:=Lib.hid hx;clear hx
 go_enter Tryz.func181,Tryz.ntmps181
 go_wp2_with (refine wpList_make_full _ rfl (.tmp 9) (.tmp 9) 23 rfl w.heap.size 3 i0 (.int .i64 0) 1 Tryz.underlying23 hi hz0 hz1 .i64 .i64 n n n rfl rfl rfl rfl ?_ ?_ (Nat.le_refl _) ?_)
 ·rw [hz2];omega
 ·simp only [maxLen];omega
 ·intro w1 hown hgr
  have hown1:Ow w1 w.heap.size (some ⟨w.heap.size,0,none⟩) n n (part (pks g xs n) 0 n):=by
   unfold Ow;rw [part_zero,<-toList_madeCells_one];exact hown
  have hb1:Below w.heap.size w w1:=(Below.refl _ _).grown hgr (Nat.le_refl _) (fun k hk=>by cases hk);clear hown hgr
  go_wp2
  go_loopw [13] (fun i wr=>∃ k:Nat,k<=n/\i=.int .i64 k/\Ow wr w.heap.size (some ⟨w.heap.size,0,none⟩) n n (part (pks g xs n) k n)/\Below w.heap.size w wr) (fun i _=>n-(intOf i).toNat)
  case atStart=>exact ⟨0,Nat.zero_le _,rfl,hown1,hb1⟩
  case round=>
   obtain ⟨k,hk,rfl,ho,hb⟩:=hrel
   by_cases hlt:k<n
   ·obtain ⟨b,off,rfl,hbB,hck⟩:=(h.below (hb.mono hB)).at_ hlt;obtain ⟨x0,x1⟩:=Hx.out k hlt;obtain ⟨x,hxv⟩:=Int.eq_ofNat_of_zero_le x0;rw [hxv] at hck x1;have hxn:x<ng:=(by omega);obtain ⟨bg,og,rfl,hbBg,hcg⟩:=(hg.below (hb.mono hBg)).at_ hxn;have hp:=pks_nth (g:=g) (xs:=xs) hlt;rw [hxv,Int.toNat_natCast] at hp;rw [<- hp] at hcg;have hold:=World.ownsRow.cellAt ho k (by omega);rw [vals_get (by rw [part_length];exact hlt)] at hold;have hfr:=World.ownsRow.frozenAt ho k;have hst:=World.ownsRow.stored ho k (.int .i64 (nth (pks g xs n) k));rw [part_set] at hst
    have Hst:=Lib.hid hst;clear hst hp hxv
    go_wp2
    go_roundw
    case rel=>exact ⟨k+1,by omega,by go_num,Hst.out.1,hb.setCell (Nat.le_refl _) _⟩
    case measure=>simp [intOf];omega
   ·obtain rfl:k=n:=by omega
    go_wp2
    go_ret
    have e:=part_all (pks g xs k);rw [hpl.out] at e;rw [e] at ho;exact retSl_mk ho hb
end Go.Proofs.YtkeoflnmbcdmfaaGreatDoor
