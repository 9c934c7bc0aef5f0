import Derived.Test.YtkeoflnmbcdmfaaGreatDoorP5F
set_option maxRecDepth 8000
namespace Go.Proofs.YtkeoflnmbcdmfaaGreatDoor
open Go.ChangeShapes Go.WideShapes Go.ChangeAt Go.RowKit
def fpB (s:Int) (gi:List Int) (rs:List RuleM) (g:List Int):Bool:=pvB s gi rs&&gv g s&&fitB s gi rs g
def psB (s:Int) (gi:List Int) (rs:List RuleM) (g:List Int):Bool:=fpB s gi rs g&&(gf g s==(g.length:Int))
theorem pv_gv {s:Int} {gi:List Int} {rs:List RuleM} (h:pvB s gi rs=true):gv gi s=true/\rs.length<=20/\allR (rvR s) rs rs.length:=by
 simp only [pvB,Bool.and_eq_true,decide_eq_true_eq,List.all_eq_true,List.mem_range] at h;exact ⟨h.1.2,h.2,h.1.1⟩
structure PGs (w:World) (s:Int) (Ag:Option Addr) (ng cg Bg:Nat) (gi:List Int) (Ar:Option Addr) (nr cr Br:Nat) (rs:List RuleM):Prop where
 g:Rd w Bg Ag ng gi
 gB:Bg<=w.heap.size
 gm:ng<=1099511627776
 r:RdRs w Br Ar nr rs
 rB:Br<=w.heap.size
 rm:nr<=1099511627776
theorem PGs.below {w w':World} {s:Int} {Ag:Option Addr} {ng cg Bg:Nat} {gi:List Int} {Ar:Option Addr} {nr cr Br:Nat} {rs:List RuleM} (h:PGs w s Ag ng cg Bg gi Ar nr cr Br rs) (hb:Below w.heap.size w w'):PGs w' s Ag ng cg Bg gi Ar nr cr Br rs:=
 ⟨h.g.below (hb.mono h.gB),Nat.le_trans h.gB hb.size,h.gm,h.r.below (hb.mono h.rB),Nat.le_trans h.rB hb.size,h.rm⟩
set_option maxHeartbeats 1000000 in
theorem specPuzzleFits (s:Int) (Ag:Option Addr) (ng cg Bg:Nat) (gi:List Int) (Ar:Option Addr) (nr cr Br:Nat) (rs:List RuleM) (A:Option Addr) (n c B:Nat) (g:List Int) (w:World) (hp:PGs w s Ag ng cg Bg gi Ar nr cr Br rs) (h:Rd w B A n g) (hB:B<=w.heap.size) (hm:n<=1099511627776):
 Calls Tryz.prog 115 #[.agg #[.int .i64 s,.slice Ag ng cg,.slice Ar nr cr],.slice A n c] w fun e w'=>e=.returned (.bool (fpB s gi rs g))/\Below w.heap.size w w':=by
 have hx0:=pbox_new w s Ag ng cg Ar nr cr 26;have hb0:Below w.heap.size w (w.alloc (.cells #[.int .i64 s,.slice Ag ng cg,.slice Ar nr cr] 26)):=(Below.refl _ _).alloc (Nat.le_refl _) _
 have hs0:w.heap.size<(w.alloc (.cells #[.int .i64 s,.slice Ag ng cg,.slice Ar nr cr] 26)).heap.size:=by simp
 have HP:=Lib.hid (fun w' (hb:Below w.heap.size w w')=>specPuzzleValid s Ag ng cg Bg gi Ar nr cr Br rs w' (hp.below hb).g (hp.below hb).gB hp.gm (hp.below hb).r (hp.below hb).rB hp.rm);have HG:=Lib.hid (fun w' (hb:Below w.heap.size w w')=>specGridValid A c n B g s w' (h.below (hb.mono hB)) hm);have hlen:=Lib.hid h.1;have hleng:=Lib.hid hp.g.1;cases hv:pvB s gi rs
 ·have HL:=Lib.hid (show fpB s gi rs g=false by simp [fpB,hv])
  go_enter Tryz.func115,Tryz.ntmps115
  go_wp2_with (go_at_call 25;refine (HP.out _ hb0).mono ?_;rintro e w1 ⟨rfl,hb1⟩;rw [hv];have hB1:=step hb0 hb1;clear hb1)
  go_ret
  exact ⟨by rw [HL.out];rfl,hB1⟩
 ·cases hg:gv g s
  ·have HL:=Lib.hid (show fpB s gi rs g=false by simp [fpB,hg])
   go_enter Tryz.func115,Tryz.ntmps115
   go_wp2_with (first|(go_at_call 25;refine (HP.out _ hb0).mono ?_;rintro e w1 ⟨rfl,hb1⟩;rw [hv];have hB1:=step hb0 hb1;obtain ⟨c0,c1,c2⟩:=hx0.below hs0 hb1;clear hb1)|(go_at_call 72;refine (HG.out _ hB1).mono ?_;rintro e w2 ⟨rfl,rfl⟩;rw [hg]))
   go_ret
   exact ⟨by rw [HL.out];rfl,hB1⟩
  ·have HL:=Lib.hid (show fpB s gi rs g=fitB s gi rs g by simp [fpB,hv,hg]);obtain ⟨hgi,_,_⟩:=pv_gv hv;obtain ⟨s2,s4⟩:=gv_size hg;obtain ⟨t,rfl⟩:=Int.eq_ofNat_of_zero_le (by omega:0<=s)
   have hs:t∈[2,3,4]:=by
    have:t=2\/t=3\/t=4:=(by omega)
    simpa using this
   have e1:=gv_len hg;have e2:=gv_len hgi;rw [hlen.out] at e1;rw [hleng.out] at e2
   obtain rfl:n=ng:=by omega
   have Hn:=Lib.hid e1;have Hok:Hid (okAll g t n):=Lib.hid (fun i hi=>gv_nth hg (by rw [hlen.out];exact hi));have HF:=Lib.hid (fun w' (hb:Below w.heap.size w w')=>specFits t Ag n cg Bg gi Ar nr cr Br rs A c B g w' (hp.below hb).g (hp.below hb).gB (hp.below hb).r (hp.below hb).rB hp.rm (h.below (hb.mono hB)) (Nat.le_trans hB hb.size) hs Hn Hok);clear e1 e2 hgi
   go_enter Tryz.func115,Tryz.ntmps115
   go_wp2_with (first|(go_at_call 25;refine (HP.out _ hb0).mono ?_;rintro e w1 ⟨rfl,hb1⟩;rw [hv];have hB1:=step hb0 hb1;obtain ⟨c0,c1,c2⟩:=hx0.below hs0 hb1;clear hb1)|(go_at_call 72;refine (HG.out _ hB1).mono ?_;rintro e w2 ⟨rfl,rfl⟩;rw [hg])|(go_at_call 156;refine (HF.out _ hB1).mono ?_;rintro e w3 ⟨rfl,hb3⟩;have hB3:=step hB1 hb3;clear hb3))
   go_ret
   exact ⟨by rw [HL.out];rfl,hB3⟩
set_option maxHeartbeats 1000000 in
theorem specPuzzleSolved (s:Int) (Ag:Option Addr) (ng cg Bg:Nat) (gi:List Int) (Ar:Option Addr) (nr cr Br:Nat) (rs:List RuleM) (A:Option Addr) (n c B:Nat) (g:List Int) (w:World) (hp:PGs w s Ag ng cg Bg gi Ar nr cr Br rs) (h:Rd w B A n g) (hB:B<=w.heap.size) (hm:n<=1099511627776):
 Calls Tryz.prog 93 #[.agg #[.int .i64 s,.slice Ag ng cg,.slice Ar nr cr],.slice A n c] w fun e w'=>e=.returned (.bool (psB s gi rs g))/\Below w.heap.size w w':=by
 have hx0:=pbox_new w s Ag ng cg Ar nr cr 26;have hb0:Below w.heap.size w (w.alloc (.cells #[.int .i64 s,.slice Ag ng cg,.slice Ar nr cr] 26)):=(Below.refl _ _).alloc (Nat.le_refl _) _
 have hs0:w.heap.size<(w.alloc (.cells #[.int .i64 s,.slice Ag ng cg,.slice Ar nr cr] 26)).heap.size:=by simp
 have hlen:=Lib.hid h.1;have HP:=Lib.hid (fun w' (hb:Below w.heap.size w w')=>specPuzzleFits s Ag ng cg Bg gi Ar nr cr Br rs A n c B g w' (hp.below hb) (h.below (hb.mono hB)) (Nat.le_trans hB hb.size) hm);have HG:=Lib.hid (fun w' (hb:Below w.heap.size w w')=>specGridFilled A c n B g s w' (h.below (hb.mono hB)) hm);cases hv:fpB s gi rs g
 ·have HL:=Lib.hid (show psB s gi rs g=false by simp [psB,hv])
  go_enter Tryz.func93,Tryz.ntmps93
  go_wp2_with (go_at_call 115;refine (HP.out _ hb0).mono ?_;rintro e w1 ⟨rfl,hb1⟩;rw [hv];have hB1:=step hb0 hb1;clear hb1)
  go_ret
  exact ⟨by rw [HL.out];rfl,hB1⟩
 ·have HL:=Lib.hid (show psB s gi rs g=(gf g s==(n:Int)) by simp only [psB,hv,hlen.out,Bool.true_and])
  go_enter Tryz.func93,Tryz.ntmps93
  go_wp2_with (first|(go_at_call 115;refine (HP.out _ hb0).mono ?_;rintro e w1 ⟨rfl,hb1⟩;rw [hv];have hB1:=step hb0 hb1;obtain ⟨c0,c1,c2⟩:=hx0.below hs0 hb1;clear hb1)|(go_at_call 77;refine (HG.out _ hB1).mono ?_;rintro e w2 ⟨rfl,rfl⟩))
  go_ret
  exact ⟨by rw [HL.out];rfl,hB1⟩
end Go.Proofs.YtkeoflnmbcdmfaaGreatDoor
