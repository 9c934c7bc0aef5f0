import Derived.Test.YtkeoflnmbcdmfaaGreatDoorC1
set_option maxRecDepth 8000
namespace Go.Proofs.YtkeoflnmbcdmfaaGreatDoor
open Go.ChangeShapes Go.WideShapes Go.ChangeAt Go.RowKit
def lineOk (size line:Int):Bool:=inr size 2 4&&inr line 0 (2*size-1)
def lineAt (size line:Int) (k:Nat):Int:=if line<size then line*size+k else k*size+line-size
def lineTo (size line:Int) (k:Nat):List Int:=(List.range k).map (lineAt size line)
def lineL (size line:Int):List Int:=if lineOk size line=true then lineTo size line size.toNat else []
theorem lineTo_length (size line:Int) (k:Nat):(lineTo size line k).length=k:=by simp [lineTo]
theorem lineTo_succ (size line:Int) (k:Nat):lineTo size line (k+1)=lineTo size line k++[lineAt size line k]:=by simp [lineTo,List.range_succ]
theorem lineAt_row {size line:Int} (h:line<size) (k:Nat):lineAt size line k=line*size+k:=by simp [lineAt,h]
theorem lineAt_col {size line:Int} (h:¬ line<size) (k:Nat):lineAt size line k=k*size+line-size:=by simp [lineAt,h]
theorem small_mul {a b:Int} (a0:0<=a) (a4:a<=4) (b0:0<=b) (b4:b<=4):0<=a*b/\a*b<=16:=by
 have:a=0\/a=1\/a=2\/a=3\/a=4:=by omega
 rcases this with rfl|rfl|rfl|rfl|rfl<;>omega
theorem small_wrap {a b:Int} (a0:0<=a) (a4:a<=4) (b0:0<=b) (b4:b<=4):wrap64 (a*b)=a*b:=
 IntWalk.wrap64_in _ ⟨by have:=small_mul a0 a4 b0 b4;omega,by have:=small_mul a0 a4 b0 b4;omega⟩
theorem lineL_length (size line:Int):(lineL size line).length<=4:=by
 unfold lineL
 split
 ·next h=>
  simp only [lineOk,Bool.and_eq_true] at h;have:=inr_t h.1;rw [lineTo_length];omega
 ·simp
theorem specLineCells (size line:Int) (w:World) (_hl: -9223372036854775808<=line/\line<=9223372036854775807):
 Calls Tryz.prog 172 #[.int .i64 size,.int .i64 line] w (RetSl w (lineL size line)):=by
 cases hs:inr size 2 4
 ·have hL:lineL size line=[]:=by simp [lineL,lineOk,hs]
  have HL:=Lib.hid hL;clear hL
  by_cases h0:0<size
  all_goals
   go_enter Tryz.func172,Tryz.ntmps172
   go_wp2
   go_loopw [5,6] (fun v i wr=>i=.int .i64 0/\v=.slice (some ⟨w.heap.size,0,none⟩) 0 0/\wr=w.alloc (.cells #[] 3)) (fun _ _ _=>0)
   case atStart=>exact ⟨rfl,rfl,rfl⟩
   case round=>
    obtain ⟨rfl,rfl,rfl⟩:=hrel
    go_wp2_with (go_at_call 62;refine (l1In_any _ _ _ _).mono ?_;rintro e w' ⟨rfl,rfl⟩)
    go_ret
    rw [HL.out];exact ⟨_,_,rfl,Ow.made0 _ _ (Nat.le_refl _),(Below.refl _ _).alloc (Nat.le_refl _) _⟩
 ·obtain ⟨h2,h4⟩:=inr_t hs;cases hl:inr line 0 (2*size-1)
  ·have hL:lineL size line=[]:=by simp [lineL,lineOk,hs,hl]
   have HL:=Lib.hid hL;clear hL
   go_enter Tryz.func172,Tryz.ntmps172
   go_wp2
   go_loopw [5,6] (fun v i wr=>i=.int .i64 0/\v=.slice (some ⟨w.heap.size,0,none⟩) 0 0/\wr=w.alloc (.cells #[] 3)) (fun _ _ _=>0)
   case atStart=>exact ⟨rfl,rfl,rfl⟩
   case round=>
    obtain ⟨rfl,rfl,rfl⟩:=hrel
    go_wp2_with (go_at_call 62;refine (l1In_any _ _ _ _).mono ?_;rintro e w' ⟨rfl,rfl⟩)
    go_ret
    rw [HL.out];exact ⟨_,_,rfl,Ow.made0 _ _ (Nat.le_refl _),(Below.refl _ _).alloc (Nat.le_refl _) _⟩
  ·have hL:lineL size line=lineTo size line size.toNat:=by simp [lineL,lineOk,hs,hl]
   have HL:=Lib.hid hL;clear hL;obtain ⟨l0,l1⟩:=inr_t hl
   by_cases hr:line<size
   ·have hmul:=small_mul l0 (by omega:line<=4) (by omega:0<=size) h4;have hw:=small_wrap l0 (by omega:line<=4) (by omega:0<=size) h4
    go_enter Tryz.func172,Tryz.ntmps172
    go_wp2
    go_loopw [5,6] (fun v i wr=>∃ k:Nat,(k:Int)<=size/\i=.int .i64 k/\OwV wr w.heap.size v (lineTo size line k)/\Below w.heap.size w wr) (fun _ i _=>(size-intOf i).toNat)
    case atStart=>exact ⟨0,by omega,rfl,⟨_,_,rfl,Ow.made0 _ _ (Nat.le_refl _)⟩,(Below.refl _ _).alloc (Nat.le_refl _) _⟩
    case round=>
     obtain ⟨k,hk,rfl,⟨A,c,rfl,ho⟩,hb⟩:=hrel;have hkb:(lineTo size line k).length<=1099511627776:=(by rw [lineTo_length];omega)
     by_cases hlt:(k:Int)<size
     ·go_wp2_with (first
       |(go_at_call 62;refine (l1In_any _ _ _ _).mono ?_;rintro e w' ⟨rfl,rfl⟩)
       |(at_builtin;refine push_int rfl (.tmp 27) (.tmp 33) rfl w.heap.size A _ c (lineTo size line k) _ rfl rfl ho hkb hb.size ?_;intro A' c' w1 ho1 hg1))
      have ho2:OwV w1 w.heap.size (.slice A' ((lineTo size line k).length+1) c') (lineTo size line (k+1)):=by
       refine ⟨A',c',by rw [lineTo_succ,List.length_append];rfl,?_⟩;rw [lineTo_succ,lineAt_row hr,List.length_append];exact ho1
      have hb2:=push_below hb ho (Nat.le_refl _) hb.size hg1;clear ho1 hg1
      go_roundw
      case rel=>exact ⟨k+1,by omega,by go_num,ho2,hb2⟩
      case measure=>simp [intOf];omega
     ·have e:size.toNat=k:=(by omega)
      go_wp2_with (go_at_call 62;refine (l1In_any _ _ _ _).mono ?_;rintro e w' ⟨rfl,rfl⟩)
      go_ret
      rw [HL.out,e];exact ⟨_,_,rfl,ho,hb⟩
   ·go_enter Tryz.func172,Tryz.ntmps172
    go_wp2
    go_loopw [5,6] (fun v i wr=>∃ k:Nat,(k:Int)<=size/\i=.int .i64 k/\OwV wr w.heap.size v (lineTo size line k)/\Below w.heap.size w wr) (fun _ i _=>(size-intOf i).toNat)
    case atStart=>exact ⟨0,by omega,rfl,⟨_,_,rfl,Ow.made0 _ _ (Nat.le_refl _)⟩,(Below.refl _ _).alloc (Nat.le_refl _) _⟩
    case round=>
     obtain ⟨k,hk,rfl,⟨A,c,rfl,ho⟩,hb⟩:=hrel;have hkb:(lineTo size line k).length<=1099511627776:=(by rw [lineTo_length];omega);have hmul:=small_mul (Int.natCast_nonneg k) (by omega:(k:Int)<=4) (by omega:0<=size) h4;have hw:=small_wrap (Int.natCast_nonneg k) (by omega:(k:Int)<=4) (by omega:0<=size) h4
     by_cases hlt:(k:Int)<size
     ·go_wp2_with (first
       |(go_at_call 62;refine (l1In_any _ _ _ _).mono ?_;rintro e w' ⟨rfl,rfl⟩)
       |(at_builtin;refine push_int rfl (.tmp 35) (.tmp 43) rfl w.heap.size A _ c (lineTo size line k) _ rfl rfl ho hkb hb.size ?_;intro A' c' w1 ho1 hg1))
      have ho2:OwV w1 w.heap.size (.slice A' ((lineTo size line k).length+1) c') (lineTo size line (k+1)):=by
       refine ⟨A',c',by rw [lineTo_succ,List.length_append];rfl,?_⟩;rw [lineTo_succ,lineAt_col (by omega),List.length_append];exact ho1
      have hb2:=push_below hb ho (Nat.le_refl _) hb.size hg1;clear ho1 hg1
      go_roundw
      case rel=>exact ⟨k+1,by omega,by go_num,ho2,hb2⟩
      case measure=>simp [intOf];omega
     ·have e:size.toNat=k:=(by omega)
      go_wp2_with (go_at_call 62;refine (l1In_any _ _ _ _).mono ?_;rintro e w' ⟨rfl,rfl⟩)
      go_ret
      rw [HL.out,e];exact ⟨_,_,rfl,ho,hb⟩
theorem lineTo_nth {size line:Int} {k n:Nat} (h:k<n):nth (lineTo size line n) k=lineAt size line k:=by simp [nth,lineTo,List.getD_eq_getElem?_getD,h]
theorem lineAt_col' {size line:Int} (h:¬ line<size) (k:Nat):lineAt size line k=line-size+k*size:=by rw [lineAt_col h];omega
theorem wide_mul {a b:Int} (a0:0<=a) (a8:a<=8) (b0:0<=b) (b4:b<=4):0<=a*b/\a*b<=32:=by
 have:b=0\/b=1\/b=2\/b=3\/b=4:=by omega
 rcases this with rfl|rfl|rfl|rfl|rfl<;>omega
theorem wide_wrap {a b:Int} (a0:0<=a) (a8:a<=8) (b0:0<=b) (b4:b<=4):wrap64 (a*b)=a*b:=
 IntWalk.wrap64_in _ ⟨by have:=wide_mul a0 a8 b0 b4;omega,by have:=wide_mul a0 a8 b0 b4;omega⟩
theorem lineValid_any (size line:Int) (w:World):Calls Tryz.prog 202 #[.int .i64 size,.int .i64 line] w fun e w'=>e=.returned (.bool (lineOk size line))/\w=w':=by
 cases hs:inr size 2 4
 ·have HL:=Lib.hid (show lineOk size line=false by simp [lineOk,hs])
  go_enter Tryz.func202,Tryz.ntmps202
  go_wp2_with (go_at_call 67;refine (sizeValid_any _ _).mono ?_;rintro e w' ⟨rfl,rfl⟩)
  go_ret
  exact ⟨by rw [HL.out];first|rfl|(show Ending.returned (.bool (decide (line<2*size)))=_;simp;omega),rfl⟩
 ·obtain ⟨h2,h4⟩:=inr_t hs
  by_cases l0:0<=line
  ·by_cases l1:line<2*size
   ·have HL:=Lib.hid (show lineOk size line=true by simp [lineOk,inr];omega)
    go_enter Tryz.func202,Tryz.ntmps202
    go_wp2_with (go_at_call 67;refine (sizeValid_any _ _).mono ?_;rintro e w' ⟨rfl,rfl⟩)
    go_ret
    exact ⟨by rw [HL.out];first|rfl|(show Ending.returned (.bool (decide (line<2*size)))=_;simp;omega),rfl⟩
   ·have HL:=Lib.hid (show lineOk size line=false by simp [lineOk,inr];omega)
    go_enter Tryz.func202,Tryz.ntmps202
    go_wp2_with (go_at_call 67;refine (sizeValid_any _ _).mono ?_;rintro e w' ⟨rfl,rfl⟩)
    go_ret
    exact ⟨by rw [HL.out];first|rfl|(show Ending.returned (.bool (decide (line<2*size)))=_;simp;omega),rfl⟩
  ·have HL:=Lib.hid (show lineOk size line=false by simp [lineOk,inr];omega)
   go_enter Tryz.func202,Tryz.ntmps202
   go_wp2_with (go_at_call 67;refine (sizeValid_any _ _).mono ?_;rintro e w' ⟨rfl,rfl⟩)
   go_ret
   exact ⟨by rw [HL.out];first|rfl|(show Ending.returned (.bool (decide (line<2*size)))=_;simp;omega),rfl⟩
theorem implLineCells (size line:Int) (w:World) (_hl: -9223372036854775808<=line/\line<=9223372036854775807):
 Calls Tryz.prog 196 #[.int .i64 size,.int .i64 line] w (RetSl w (lineL size line)):=by
 cases hlo:lineOk size line
 ·have hL:lineL size line=[]:=by simp [lineL,hlo]
  have HL:=Lib.hid hL;clear hL
  go_enter Tryz.func196,Tryz.ntmps196
  go_wp2_with (go_at_call 202;refine (lineValid_any _ _ _).mono ?_;rintro e w' ⟨rfl,rfl⟩)
  go_ret
  rw [HL.out];exact ⟨_,_,rfl,Ow.nil_ _ _,Below.refl _ _⟩
 ·have hlo':=hlo;simp only [lineOk,Bool.and_eq_true] at hlo';obtain ⟨h2,h4⟩:=inr_t hlo'.1;obtain ⟨l0,l1⟩:=inr_t hlo'.2;clear hlo'
  ·have hL:lineL size line=lineTo size line size.toNat:=by simp [lineL,hlo]
   have HL:=Lib.hid hL;clear hL;obtain ⟨n,rfl⟩:=Int.eq_ofNat_of_zero_le (by omega:0<=size);obtain ⟨i0,hi,hz0,hz1,hz2⟩:=info_parts int_info
   by_cases hr:line<n
   ·have hmul:=small_mul l0 (by omega:line<=4) (by omega:0<=(n:Int)) h4;have hw:=small_wrap l0 (by omega:line<=4) (by omega:0<=(n:Int)) h4
    go_enter Tryz.func196,Tryz.ntmps196
    go_wp2_with (first
     |(go_at_call 202;refine (lineValid_any _ _ _).mono ?_;rintro e w' ⟨rfl,rfl⟩)
     |(refine wpList_make_full _ rfl (.tmp 23) (.tmp 23) 23 rfl w.heap.size 3 i0 (.int .i64 0) 1 Tryz.underlying23 hi hz0 hz1 .i64 .i64 n n n rfl rfl rfl rfl (by rw [hz2];omega) (by simp only [maxLen];omega) (Nat.le_refl _) ?_;intro w1 hown hgr))
    have hown1:=made_part (lineTo n line n) hown;have hb1:=made_below hgr (Nat.le_refl _);clear hown hgr
    go_loopw [27] (fun i wr=>∃ k:Nat,k<=n/\i=.int .i64 k/\Ow wr w.heap.size (some ⟨w.heap.size,0,none⟩) n n (part (lineTo n line n) k n)/\Below w.heap.size w wr) (fun i _=>n-(intOf i).toNat)
    case atStart=>exact ⟨0,Nat.zero_le _,rfl,hown1,hb1⟩
    case round=>
     obtain ⟨k,hk,rfl,ho,hb⟩:=hrel
     by_cases hlt:k<n
     ·obtain ⟨hold,hfr⟩:=ho.cell hlt;have hst:=(World.ownsRow.stored ho k (.int .i64 (nth (lineTo n line n) k))).1;rw [part_set,lineTo_nth hlt,lineAt_row hr] at hst;have Hst:=Lib.hid hst;clear hst
      go_wp2
      go_roundw
      case rel=>exact ⟨k+1,by omega,by go_num,Hst.out,hb.setCell (Nat.le_refl _) _⟩
      case measure=>simp [intOf];omega
     ·obtain rfl:k=n:=by omega
      go_wp2
      go_ret
      rw [HL.out,Int.toNat_natCast];rw [part_all' (lineTo_length _ _ _)] at ho;exact retSl_mk ho hb
   ·have hmul0:=wide_mul l0 (by omega:line<=8) (by omega:0<=(n:Int)) h4;have hw0:=wide_wrap l0 (by omega:line<=8) (by omega:0<=(n:Int)) h4
    go_enter Tryz.func196,Tryz.ntmps196
    go_wp2_with (first
     |(go_at_call 202;refine (lineValid_any _ _ _).mono ?_;rintro e w' ⟨rfl,rfl⟩)
     |(refine wpList_make_full _ rfl (.tmp 23) (.tmp 23) 23 rfl w.heap.size 3 i0 (.int .i64 0) 1 Tryz.underlying23 hi hz0 hz1 .i64 .i64 n n n rfl rfl rfl rfl (by rw [hz2];omega) (by simp only [maxLen];omega) (Nat.le_refl _) ?_;intro w1 hown hgr))
    have hown1:=made_part (lineTo n line n) hown;have hb1:=made_below hgr (Nat.le_refl _);clear hown hgr
    go_loopw [27] (fun i wr=>∃ k:Nat,k<=n/\i=.int .i64 k/\Ow wr w.heap.size (some ⟨w.heap.size,0,none⟩) n n (part (lineTo n line n) k n)/\Below w.heap.size w wr) (fun i _=>n-(intOf i).toNat)
    case atStart=>exact ⟨0,Nat.zero_le _,rfl,hown1,hb1⟩
    case round=>
     obtain ⟨k,hk,rfl,ho,hb⟩:=hrel
     by_cases hlt:k<n
     ·have hmul:=small_mul (Int.natCast_nonneg k) (by omega:(k:Int)<=4) (by omega:0<=(n:Int)) h4;have hw:=small_wrap (Int.natCast_nonneg k) (by omega:(k:Int)<=4) (by omega:0<=(n:Int)) h4;obtain ⟨hold,hfr⟩:=ho.cell hlt;have hst:=(World.ownsRow.stored ho k (.int .i64 (nth (lineTo n line n) k))).1;rw [part_set,lineTo_nth hlt,lineAt_col' (by omega)] at hst;have Hst:=Lib.hid hst;clear hst
      go_wp2
      go_roundw
      case rel=>exact ⟨k+1,by omega,by go_num,Hst.out,hb.setCell (Nat.le_refl _) _⟩
      case measure=>simp [intOf];omega
     ·obtain rfl:k=n:=by omega
      go_wp2
      go_ret
      rw [HL.out,Int.toNat_natCast];rw [part_all' (lineTo_length _ _ _)] at ho;exact retSl_mk ho hb
end Go.Proofs.YtkeoflnmbcdmfaaGreatDoor
