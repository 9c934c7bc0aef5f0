import Derived.Test.YtkeoflnmbcdmfaaGreatDoorSearch
import Derived.Test.YtkeoflnmbcdmfaaGreatDoorSqN
import Derived.Laws.AppendOwnNone
set_option maxRecDepth 8000
namespace Go.Proofs.YtkeoflnmbcdmfaaGreatDoor
open Go.ChangeShapes Go.WideShapes Go.ChangeAt Go.RowKit
def sqn (size number:Int):List Int:=
 if inr size 2 4=true/\0<=number then ((sols size (size*size).toNat (zeros (size*size).toNat) 0)[number.toNat]?).getD [] else []
theorem zeros_length (n:Nat):(zeros n).length=n:=by simp [zeros]
theorem zeros_nth (n k:Nat):nth (zeros n) k=0:=by
 simp only [nth,zeros,List.getD_eq_getElem?_getD,List.getElem?_replicate]
 split<;>rfl
theorem part_zeros (n:Nat):part (zeros n) 0 n=zeros n:=by
 apply ext_nth (by rw [part_length,zeros_length])
 intro k hk;rw [part_length] at hk;rw [part_nth _ _ _ _ hk,zeros_nth]
 simp
theorem okAll_zeros {size:Int} (h:0<=size) (n:Nat):okAll (zeros n) size n:=fun k _=>by rw [zeros_nth];omega
theorem pickL_getD (L:List (List Int)) (l:Int):(pickL L l).1=L[l.toNat]? :=by
 unfold pickL
 cases L[l.toNat]? <;>rfl
theorem sqn_length {size number:Int}:(sqn size number).length<=16:=by
 unfold sqn
 split
 ·next h=>
  obtain ⟨h2,h4⟩:=inr_t h.1;have:=sq_bd h2 h4
  cases e:(sols size (size*size).toNat (zeros (size*size).toNat) 0)[number.toNat]? with
  |none=>simp
  |some y=>
   have:=sols_length size _ _ _ y (List.mem_of_getElem? e);rw [zeros_length] at this;simp only [Option.getD_some];omega
 ·simp
theorem specSquareNumber (size number:Int) (w:World) (_hn0: -9223372036854775808<=number) (hn1:number<=9223372036854775807):
 Calls Tryz.prog 148 #[.int .i64 size,.int .i64 number] w (RetSl w (sqn size number)):=by
 obtain ⟨i0,hi,hz0,hz1,hz2⟩:=info_parts int_info;cases hs:inr size 2 4
 ·have HL:=Lib.hid (show sqn size number=[] by simp [sqn,hs])
  go_enter Tryz.func148,Tryz.ntmps148
  go_wp2_with (go_at_call 62;refine (l1In_any _ _ _ _).mono ?_;rintro e w' ⟨rfl,rfl⟩)
  go_ret
  rw [HL.out];exact ⟨_,_,rfl,Ow.made0 _ _ (Nat.le_refl _),(Below.refl _ _).alloc (Nat.le_refl _) _⟩
 ·obtain ⟨h2,h4⟩:=inr_t hs
  by_cases h0:number<0
  ·have HL:=Lib.hid (show sqn size number=[] by unfold sqn;rw [if_neg (by intro h;omega)])
   go_enter Tryz.func148,Tryz.ntmps148
   go_wp2_with (go_at_call 62;refine (l1In_any _ _ _ _).mono ?_;rintro e w' ⟨rfl,rfl⟩)
   go_ret
   rw [HL.out];exact ⟨_,_,rfl,Ow.made0 _ _ (Nat.le_refl _),(Below.refl _ _).alloc (Nat.le_refl _) _⟩
  ·have h0':0<=number:=by omega
   obtain ⟨q4,q16⟩:=sq_bd h2 h4;obtain ⟨n,hnn⟩:∃ n:Nat,(n:Int)=size*size:=⟨(size*size).toNat,Int.toNat_of_nonneg (by omega)⟩;have hn4:4<=n:=(by omega);have hn16:n<=16:=(by omega);have hw:wrap64 (size*size)=(n:Int):=(by rw [sq_wrap h2 h4,hnn]);have Hnn:=Lib.hid hnn
   have HL:=Lib.hid (show sqn size number=((sols size n (zeros n) 0)[number.toNat]?).getD [] by
    unfold sqn;rw [if_pos ⟨hs,h0'⟩,<-hnn,Int.toNat_natCast])
   have hpk:=Lib.hid ((congrArg Prod.fst (srch_sols size n (zeros n) 0 number h0')).trans (pickL_getD _ _))
   have hln:∀ y,(sols size n (zeros n) 0)[number.toNat]? =some y->y.length=n:=fun y hy=>by
    have:=sols_length size _ _ _ y (List.mem_of_getElem? hy);rwa [zeros_length] at this
   have Hln:=Lib.hid hln;clear hnn hln q4 q16 h0;have hok:=Lib.hid (okAll_zeros (by omega:0<=size) n)
   go_enter Tryz.func148,Tryz.ntmps148
   go_wp2_with (first|(go_at_call 62;refine (l1In_any _ _ _ _).mono ?_;rintro e w' ⟨rfl,rfl⟩)|(refine wpList_make_full _ rfl (.tmp 19) (.tmp 19) 23 rfl (w.heap.size+1) 3 i0 (.int .i64 0) 1 Tryz.underlying23 hi hz0 hz1 .i64 .i64 _ _ n rfl rfl hw hw (by rw [hz2];omega) (by simp only [maxLen];omega) (by simp) ?_;intro w1 hown hgr))
   have ho1:=made_part (zeros n) hown;rw [World.size_alloc,part_zeros] at ho1;have hx0:Box1 (w.alloc (.cells #[.int .i64 number] 3)) w.heap.size number:=heap_alloc_new w _;have hb0:=made_below hgr (Nat.le_refl _);have hx1:=hx0.below hb0;have hbb:=box_below hb0;clear hown hgr
   have hne:∀ b off:Nat,(some ⟨w.heap.size+1,0,none⟩:Option Addr)=some ⟨b,off,none⟩->b≠w.heap.size:=fun b off he=>by cases he;omega
   cases ho:(sols size n (zeros n) 0)[number.toNat]? with
   |none=>
    have HL':=Lib.hid (HL.out.trans (by rw [ho];rfl:_=([]:List Int)));have hpk':=Lib.hid (hpk.out.trans ho);clear ho
    go_wp2_with (go_at_call 174;refine (specSearch size n w.heap.size h2 h4 Hnn hn4 hn16 n _ _ _ _ 0 number _ (Nat.zero_add _) ho1.rd (Nat.le_refl _) hne hok hx1 h0' hn1).mono ?_;rintro e w2 ⟨hg2,hx2,hp2⟩;rw [hpk'.out] at hp2;obtain rfl:=hp2)
    go_ret
    rw [HL'.out];exact ⟨_,_,rfl,Ow.made0 _ _ (Nat.le_trans hbb.size hg2.size),(hbb.trans (grown_below hg2 (Nat.le_refl _) hbb.size)).alloc (Nat.le_trans hbb.size hg2.size) _⟩
   |some y=>
    have HL':=Lib.hid (HL.out.trans (by rw [ho];rfl:_=y));have hpk':=Lib.hid (hpk.out.trans ho);have hly:=Lib.hid (Hln.out y ho);clear ho
    go_wp2_with (first|(go_at_call 174;refine (specSearch size n w.heap.size h2 h4 Hnn hn4 hn16 n _ _ _ _ 0 number _ (Nat.zero_add _) ho1.rd (Nat.le_refl _) hne hok hx1 h0' hn1).mono ?_;rintro e w2 ⟨hg2,hx2,hp2⟩;rw [hpk'.out] at hp2;obtain ⟨A',c',rfl,hr4⟩:=hp2;obtain ⟨b,off,rfl,hbb4,_⟩:=hr4.at_ (k:=0) (by omega))|(at_builtin;refine push_some rfl (.tmp 24) (.tmp 25) rfl w2.heap.size (some ⟨w2.heap.size,0,none⟩) 0 0 [] b off n c' w2.heap.size y rfl rfl (Ow.made0 _ _ (Nat.le_refl _)) (hr4.alloc (Nat.le_refl _) _) (by omega) (by omega) (by simp) ?_;intro A5 c5 w5 ho5 hg5))
    go_ret
    rw [HL'.out];simp only [Nat.zero_add,List.nil_append] at ho5;have hb2:=hbb.trans (grown_below hg2 (Nat.le_refl _) hbb.size);exact retSl_mk (by simpa only [Nat.zero_add] using ho5.mono hb2.size) ((hb2.alloc hb2.size _).grown hg5 (by simp;have:=hb2.size;omega) (fun k hk=>Nat.le_trans hb2.size ((Ow.made0 w2 w2.heap.size (Nat.le_refl _)).own_lo k hk)))
end Go.Proofs.YtkeoflnmbcdmfaaGreatDoor
