import Derived.Test.YtkeoflnmbcdmfaaGreatDoorQ4V
set_option maxRecDepth 8000
namespace Go.Proofs.YtkeoflnmbcdmfaaGreatDoor
open Go.ChangeShapes Go.WideShapes Go.ChangeAt Go.RowKit
theorem shp_false {k v:Int} {xs:List Int} {n:Nat} {s:Int} (hl:xs.length=n) (h:shp k v n s=false):rv k xs v s=false:=by
 subst hl;unfold shp at h;unfold rv;cases h4:decide (xs.length<=4)
 ·simp
 ·rw [h4,Bool.true_and] at h;rw [h,Bool.and_false]
theorem shp_true {k v:Int} {xs:List Int} {n:Nat} {s:Int} (hl:xs.length=n) (hs:inr s 2 4=true) (h:shp k v n s=true):rv k xs v s=(List.range n).all (cellOk (s*s-1) xs):=by
 subst hl;unfold shp at h;rw [Bool.and_eq_true] at h;unfold rv;rw [hs,h.1,h.2,Bool.and_true,Bool.true_and,Bool.true_and]
theorem mShaped1 (k v:Int) (A:Option Addr) (n c:Nat) (w:World):(method 323 183 (.agg #[.int .i64 k,.slice A n c,.int .i64 v]) "loop.example/gridpuzzles/impl.shaped").run Tryz.prog w=.ok (221,.agg #[.int .i64 k,.slice A n c,.int .i64 v]) w:=by kernel_rfl
theorem mHolds1 (k v:Int) (A:Option Addr) (n c:Nat) (w:World):(method 323 183 (.agg #[.int .i64 k,.slice A n c,.int .i64 v]) "loop.example/gridpuzzles/impl.holdsWith").run Tryz.prog w=.ok (220,.agg #[.int .i64 k,.slice A n c,.int .i64 v]) w:=by kernel_rfl
theorem ruleValid1 (A:Option Addr) (c n B:Nat) (xs:List Int) (v size:Int) (w:World) (h:Rd w B A n xs) (hB:B<=w.heap.size) (hm:n<=1099511627776) (hcap:n<=c) (hs:inr size 2 4=true):
 Calls Tryz.prog 155 #[.agg #[.int .i64 1,.slice A n c,.int .i64 v],.int .i64 size] w fun e w'=>e=.returned (.bool (rv 1 xs v size))/\Below w.heap.size w w':=by
 have hlen:=Lib.hid h.1;have hx0:=rbox_new w 1 A n c v 88;have hb0:Below w.heap.size w (w.alloc (.cells #[.int .i64 1,.slice A n c,.int .i64 v] 88)):=(Below.refl _ _).alloc (Nat.le_refl _) _
 have hsz0:w.heap.size<(w.alloc (.cells #[.int .i64 1,.slice A n c,.int .i64 v] 88)).heap.size:=by simp
 obtain ⟨k0,k1,k2⟩:=id hx0;obtain ⟨h2s,h4s⟩:=inr_t hs
 have M:∀ w,(method 323 183 (.agg #[.int .i64 1,.slice A n c,.int .i64 v]) "loop.example/gridpuzzles/impl.shaped").run Tryz.prog w=.ok (221,.agg #[.int .i64 1,.slice A n c,.int .i64 v]) w:=fun w=>mShaped1 _ _ _ _ _ w
 cases hsh:shp 1 v n size
 ·have HL:=Lib.hid (shp_false hlen.out hsh)
  go_enter Tryz.func155,Tryz.ntmps155
  go_wp2_with (first|(go_at_call 67;refine (sizeValid_any _ _).mono ?_;rintro e w' ⟨rfl,rfl⟩;rw [hs])|(go_at_call 175;refine (ofKind_any _ _ _ _ _ _).mono ?_;rintro e w1 ⟨rfl,hb1⟩;have hB1:=step hb0 hb1;rw [show ofk 1 (rval 1 A n c v)=.iface 183 (.agg #[.int .i64 1,.slice A n c,.int .i64 v]) from rfl])|(go_at_call 221;refine (differentShaped _ _ _ _ _ _ h2s h4s _).mono ?_;rintro e w2 ⟨rfl,hb2⟩;rw [hsh];have hB2:=step hB1 hb2))
  go_ret
  exact ⟨by rw [HL.out];rfl,hB2⟩
 ·have HL:=Lib.hid (shp_true hlen.out hs hsh)
  go_enter Tryz.func155,Tryz.ntmps155
  go_wp2_with (first|(go_at_call 67;refine (sizeValid_any _ _).mono ?_;rintro e w' ⟨rfl,rfl⟩;rw [hs])|(go_at_call 175;refine (ofKind_any _ _ _ _ _ _).mono ?_;rintro e w1 ⟨rfl,hb1⟩;have hB1:=step hb0 hb1;have hx1:=hx0.below hsz0 hb1;rw [show ofk 1 (rval 1 A n c v)=.iface 183 (.agg #[.int .i64 1,.slice A n c,.int .i64 v]) from rfl])|(go_at_call 221;refine (differentShaped _ _ _ _ _ _ h2s h4s _).mono ?_;rintro e w2 ⟨rfl,hb2⟩;rw [hsh];have hB2:=step hB1 hb2;obtain ⟨j0,j1,j2⟩:=hx1.below (Nat.lt_of_lt_of_le hsz0 hb1.size) hb2)|(go_at_call 176;refine (cellsDiffer_any _ _ _ _ _ _ h2s h4s _ (h.below (hB2.mono hB)) hm hcap).mono ?_;rintro e w3 ⟨rfl,rfl⟩))
  go_ret
  exact ⟨by rw [HL.out];rfl,hB2⟩
theorem mShaped2 (k v:Int) (A:Option Addr) (n c:Nat) (w:World):(method 323 184 (.agg #[.int .i64 k,.slice A n c,.int .i64 v]) "loop.example/gridpuzzles/impl.shaped").run Tryz.prog w=.ok (223,.agg #[.int .i64 k,.slice A n c,.int .i64 v]) w:=by kernel_rfl
theorem mHolds2 (k v:Int) (A:Option Addr) (n c:Nat) (w:World):(method 323 184 (.agg #[.int .i64 k,.slice A n c,.int .i64 v]) "loop.example/gridpuzzles/impl.holdsWith").run Tryz.prog w=.ok (222,.agg #[.int .i64 k,.slice A n c,.int .i64 v]) w:=by kernel_rfl
theorem ruleValid2 (A:Option Addr) (c n B:Nat) (xs:List Int) (v size:Int) (w:World) (h:Rd w B A n xs) (hB:B<=w.heap.size) (hm:n<=1099511627776) (hcap:n<=c) (hs:inr size 2 4=true):
 Calls Tryz.prog 155 #[.agg #[.int .i64 2,.slice A n c,.int .i64 v],.int .i64 size] w fun e w'=>e=.returned (.bool (rv 2 xs v size))/\Below w.heap.size w w':=by
 have hlen:=Lib.hid h.1;have hx0:=rbox_new w 2 A n c v 88;have hb0:Below w.heap.size w (w.alloc (.cells #[.int .i64 2,.slice A n c,.int .i64 v] 88)):=(Below.refl _ _).alloc (Nat.le_refl _) _
 have hsz0:w.heap.size<(w.alloc (.cells #[.int .i64 2,.slice A n c,.int .i64 v] 88)).heap.size:=by simp
 obtain ⟨k0,k1,k2⟩:=id hx0;obtain ⟨h2s,h4s⟩:=inr_t hs
 have M:∀ w,(method 323 184 (.agg #[.int .i64 2,.slice A n c,.int .i64 v]) "loop.example/gridpuzzles/impl.shaped").run Tryz.prog w=.ok (223,.agg #[.int .i64 2,.slice A n c,.int .i64 v]) w:=fun w=>mShaped2 _ _ _ _ _ w
 cases hsh:shp 2 v n size
 ·have HL:=Lib.hid (shp_false hlen.out hsh)
  go_enter Tryz.func155,Tryz.ntmps155
  go_wp2_with (first|(go_at_call 67;refine (sizeValid_any _ _).mono ?_;rintro e w' ⟨rfl,rfl⟩;rw [hs])|(go_at_call 175;refine (ofKind_any _ _ _ _ _ _).mono ?_;rintro e w1 ⟨rfl,hb1⟩;have hB1:=step hb0 hb1;rw [show ofk 2 (rval 2 A n c v)=.iface 184 (.agg #[.int .i64 2,.slice A n c,.int .i64 v]) from rfl])|(go_at_call 223;refine (sumShaped _ _ _ _ _ _ h2s h4s _).mono ?_;rintro e w2 ⟨rfl,hb2⟩;rw [hsh];have hB2:=step hB1 hb2))
  go_ret
  exact ⟨by rw [HL.out];rfl,hB2⟩
 ·have HL:=Lib.hid (shp_true hlen.out hs hsh)
  go_enter Tryz.func155,Tryz.ntmps155
  go_wp2_with (first|(go_at_call 67;refine (sizeValid_any _ _).mono ?_;rintro e w' ⟨rfl,rfl⟩;rw [hs])|(go_at_call 175;refine (ofKind_any _ _ _ _ _ _).mono ?_;rintro e w1 ⟨rfl,hb1⟩;have hB1:=step hb0 hb1;have hx1:=hx0.below hsz0 hb1;rw [show ofk 2 (rval 2 A n c v)=.iface 184 (.agg #[.int .i64 2,.slice A n c,.int .i64 v]) from rfl])|(go_at_call 223;refine (sumShaped _ _ _ _ _ _ h2s h4s _).mono ?_;rintro e w2 ⟨rfl,hb2⟩;rw [hsh];have hB2:=step hB1 hb2;obtain ⟨j0,j1,j2⟩:=hx1.below (Nat.lt_of_lt_of_le hsz0 hb1.size) hb2)|(go_at_call 176;refine (cellsDiffer_any _ _ _ _ _ _ h2s h4s _ (h.below (hB2.mono hB)) hm hcap).mono ?_;rintro e w3 ⟨rfl,rfl⟩))
  go_ret
  exact ⟨by rw [HL.out];rfl,hB2⟩
theorem mShaped3 (k v:Int) (A:Option Addr) (n c:Nat) (w:World):(method 323 185 (.agg #[.int .i64 k,.slice A n c,.int .i64 v]) "loop.example/gridpuzzles/impl.shaped").run Tryz.prog w=.ok (226,.agg #[.int .i64 k,.slice A n c,.int .i64 v]) w:=by kernel_rfl
theorem mHolds3 (k v:Int) (A:Option Addr) (n c:Nat) (w:World):(method 323 185 (.agg #[.int .i64 k,.slice A n c,.int .i64 v]) "loop.example/gridpuzzles/impl.holdsWith").run Tryz.prog w=.ok (225,.agg #[.int .i64 k,.slice A n c,.int .i64 v]) w:=by kernel_rfl
theorem ruleValid3 (A:Option Addr) (c n B:Nat) (xs:List Int) (v size:Int) (w:World) (h:Rd w B A n xs) (hB:B<=w.heap.size) (hm:n<=1099511627776) (hcap:n<=c) (hs:inr size 2 4=true):
 Calls Tryz.prog 155 #[.agg #[.int .i64 3,.slice A n c,.int .i64 v],.int .i64 size] w fun e w'=>e=.returned (.bool (rv 3 xs v size))/\Below w.heap.size w w':=by
 have hlen:=Lib.hid h.1;have hx0:=rbox_new w 3 A n c v 88;have hb0:Below w.heap.size w (w.alloc (.cells #[.int .i64 3,.slice A n c,.int .i64 v] 88)):=(Below.refl _ _).alloc (Nat.le_refl _) _
 have hsz0:w.heap.size<(w.alloc (.cells #[.int .i64 3,.slice A n c,.int .i64 v] 88)).heap.size:=by simp
 obtain ⟨k0,k1,k2⟩:=id hx0;obtain ⟨h2s,h4s⟩:=inr_t hs
 have M:∀ w,(method 323 185 (.agg #[.int .i64 3,.slice A n c,.int .i64 v]) "loop.example/gridpuzzles/impl.shaped").run Tryz.prog w=.ok (226,.agg #[.int .i64 3,.slice A n c,.int .i64 v]) w:=fun w=>mShaped3 _ _ _ _ _ w
 cases hsh:shp 3 v n size
 ·have HL:=Lib.hid (shp_false hlen.out hsh)
  go_enter Tryz.func155,Tryz.ntmps155
  go_wp2_with (first|(go_at_call 67;refine (sizeValid_any _ _).mono ?_;rintro e w' ⟨rfl,rfl⟩;rw [hs])|(go_at_call 175;refine (ofKind_any _ _ _ _ _ _).mono ?_;rintro e w1 ⟨rfl,hb1⟩;have hB1:=step hb0 hb1;rw [show ofk 3 (rval 3 A n c v)=.iface 185 (.agg #[.int .i64 3,.slice A n c,.int .i64 v]) from rfl])|(go_at_call 226;refine (productShaped _ _ _ _ _ _ h2s h4s _).mono ?_;rintro e w2 ⟨rfl,hb2⟩;rw [hsh];have hB2:=step hB1 hb2))
  go_ret
  exact ⟨by rw [HL.out];rfl,hB2⟩
 ·have HL:=Lib.hid (shp_true hlen.out hs hsh)
  go_enter Tryz.func155,Tryz.ntmps155
  go_wp2_with (first|(go_at_call 67;refine (sizeValid_any _ _).mono ?_;rintro e w' ⟨rfl,rfl⟩;rw [hs])|(go_at_call 175;refine (ofKind_any _ _ _ _ _ _).mono ?_;rintro e w1 ⟨rfl,hb1⟩;have hB1:=step hb0 hb1;have hx1:=hx0.below hsz0 hb1;rw [show ofk 3 (rval 3 A n c v)=.iface 185 (.agg #[.int .i64 3,.slice A n c,.int .i64 v]) from rfl])|(go_at_call 226;refine (productShaped _ _ _ _ _ _ h2s h4s _).mono ?_;rintro e w2 ⟨rfl,hb2⟩;rw [hsh];have hB2:=step hB1 hb2;obtain ⟨j0,j1,j2⟩:=hx1.below (Nat.lt_of_lt_of_le hsz0 hb1.size) hb2)|(go_at_call 176;refine (cellsDiffer_any _ _ _ _ _ _ h2s h4s _ (h.below (hB2.mono hB)) hm hcap).mono ?_;rintro e w3 ⟨rfl,rfl⟩))
  go_ret
  exact ⟨by rw [HL.out];rfl,hB2⟩
theorem mShaped4 (k v:Int) (A:Option Addr) (n c:Nat) (w:World):(method 323 186 (.agg #[.int .i64 k,.slice A n c,.int .i64 v]) "loop.example/gridpuzzles/impl.shaped").run Tryz.prog w=.ok (228,.agg #[.int .i64 k,.slice A n c,.int .i64 v]) w:=by kernel_rfl
theorem mHolds4 (k v:Int) (A:Option Addr) (n c:Nat) (w:World):(method 323 186 (.agg #[.int .i64 k,.slice A n c,.int .i64 v]) "loop.example/gridpuzzles/impl.holdsWith").run Tryz.prog w=.ok (227,.agg #[.int .i64 k,.slice A n c,.int .i64 v]) w:=by kernel_rfl
theorem ruleValid4 (A:Option Addr) (c n B:Nat) (xs:List Int) (v size:Int) (w:World) (h:Rd w B A n xs) (hB:B<=w.heap.size) (hm:n<=1099511627776) (hcap:n<=c) (hs:inr size 2 4=true):
 Calls Tryz.prog 155 #[.agg #[.int .i64 4,.slice A n c,.int .i64 v],.int .i64 size] w fun e w'=>e=.returned (.bool (rv 4 xs v size))/\Below w.heap.size w w':=by
 have hlen:=Lib.hid h.1;have hx0:=rbox_new w 4 A n c v 88;have hb0:Below w.heap.size w (w.alloc (.cells #[.int .i64 4,.slice A n c,.int .i64 v] 88)):=(Below.refl _ _).alloc (Nat.le_refl _) _
 have hsz0:w.heap.size<(w.alloc (.cells #[.int .i64 4,.slice A n c,.int .i64 v] 88)).heap.size:=by simp
 obtain ⟨k0,k1,k2⟩:=id hx0;obtain ⟨h2s,h4s⟩:=inr_t hs
 have M:∀ w,(method 323 186 (.agg #[.int .i64 4,.slice A n c,.int .i64 v]) "loop.example/gridpuzzles/impl.shaped").run Tryz.prog w=.ok (228,.agg #[.int .i64 4,.slice A n c,.int .i64 v]) w:=fun w=>mShaped4 _ _ _ _ _ w
 cases hsh:shp 4 v n size
 ·have HL:=Lib.hid (shp_false hlen.out hsh)
  go_enter Tryz.func155,Tryz.ntmps155
  go_wp2_with (first|(go_at_call 67;refine (sizeValid_any _ _).mono ?_;rintro e w' ⟨rfl,rfl⟩;rw [hs])|(go_at_call 175;refine (ofKind_any _ _ _ _ _ _).mono ?_;rintro e w1 ⟨rfl,hb1⟩;have hB1:=step hb0 hb1;rw [show ofk 4 (rval 4 A n c v)=.iface 186 (.agg #[.int .i64 4,.slice A n c,.int .i64 v]) from rfl])|(go_at_call 228;refine (lessShaped _ _ _ _ _ _ h2s h4s _).mono ?_;rintro e w2 ⟨rfl,hb2⟩;rw [hsh];have hB2:=step hB1 hb2))
  go_ret
  exact ⟨by rw [HL.out];rfl,hB2⟩
 ·have HL:=Lib.hid (shp_true hlen.out hs hsh)
  go_enter Tryz.func155,Tryz.ntmps155
  go_wp2_with (first|(go_at_call 67;refine (sizeValid_any _ _).mono ?_;rintro e w' ⟨rfl,rfl⟩;rw [hs])|(go_at_call 175;refine (ofKind_any _ _ _ _ _ _).mono ?_;rintro e w1 ⟨rfl,hb1⟩;have hB1:=step hb0 hb1;have hx1:=hx0.below hsz0 hb1;rw [show ofk 4 (rval 4 A n c v)=.iface 186 (.agg #[.int .i64 4,.slice A n c,.int .i64 v]) from rfl])|(go_at_call 228;refine (lessShaped _ _ _ _ _ _ h2s h4s _).mono ?_;rintro e w2 ⟨rfl,hb2⟩;rw [hsh];have hB2:=step hB1 hb2;obtain ⟨j0,j1,j2⟩:=hx1.below (Nat.lt_of_lt_of_le hsz0 hb1.size) hb2)|(go_at_call 176;refine (cellsDiffer_any _ _ _ _ _ _ h2s h4s _ (h.below (hB2.mono hB)) hm hcap).mono ?_;rintro e w3 ⟨rfl,rfl⟩))
  go_ret
  exact ⟨by rw [HL.out];rfl,hB2⟩
theorem mShaped5 (k v:Int) (A:Option Addr) (n c:Nat) (w:World):(method 323 187 (.agg #[.int .i64 k,.slice A n c,.int .i64 v]) "loop.example/gridpuzzles/impl.shaped").run Tryz.prog w=.ok (230,.agg #[.int .i64 k,.slice A n c,.int .i64 v]) w:=by kernel_rfl
theorem mHolds5 (k v:Int) (A:Option Addr) (n c:Nat) (w:World):(method 323 187 (.agg #[.int .i64 k,.slice A n c,.int .i64 v]) "loop.example/gridpuzzles/impl.holdsWith").run Tryz.prog w=.ok (229,.agg #[.int .i64 k,.slice A n c,.int .i64 v]) w:=by kernel_rfl
theorem ruleValid5 (A:Option Addr) (c n B:Nat) (xs:List Int) (v size:Int) (w:World) (h:Rd w B A n xs) (hB:B<=w.heap.size) (hm:n<=1099511627776) (hcap:n<=c) (hs:inr size 2 4=true):
 Calls Tryz.prog 155 #[.agg #[.int .i64 5,.slice A n c,.int .i64 v],.int .i64 size] w fun e w'=>e=.returned (.bool (rv 5 xs v size))/\Below w.heap.size w w':=by
 have hlen:=Lib.hid h.1;have hx0:=rbox_new w 5 A n c v 88;have hb0:Below w.heap.size w (w.alloc (.cells #[.int .i64 5,.slice A n c,.int .i64 v] 88)):=(Below.refl _ _).alloc (Nat.le_refl _) _
 have hsz0:w.heap.size<(w.alloc (.cells #[.int .i64 5,.slice A n c,.int .i64 v] 88)).heap.size:=by simp
 obtain ⟨k0,k1,k2⟩:=id hx0;obtain ⟨h2s,h4s⟩:=inr_t hs
 have M:∀ w,(method 323 187 (.agg #[.int .i64 5,.slice A n c,.int .i64 v]) "loop.example/gridpuzzles/impl.shaped").run Tryz.prog w=.ok (230,.agg #[.int .i64 5,.slice A n c,.int .i64 v]) w:=fun w=>mShaped5 _ _ _ _ _ w
 cases hsh:shp 5 v n size
 ·have HL:=Lib.hid (shp_false hlen.out hsh)
  go_enter Tryz.func155,Tryz.ntmps155
  go_wp2_with (first|(go_at_call 67;refine (sizeValid_any _ _).mono ?_;rintro e w' ⟨rfl,rfl⟩;rw [hs])|(go_at_call 175;refine (ofKind_any _ _ _ _ _ _).mono ?_;rintro e w1 ⟨rfl,hb1⟩;have hB1:=step hb0 hb1;rw [show ofk 5 (rval 5 A n c v)=.iface 187 (.agg #[.int .i64 5,.slice A n c,.int .i64 v]) from rfl])|(go_at_call 230;refine (apartShaped _ _ _ _ _ _ h2s h4s _).mono ?_;rintro e w2 ⟨rfl,hb2⟩;rw [hsh];have hB2:=step hB1 hb2))
  go_ret
  exact ⟨by rw [HL.out];rfl,hB2⟩
 ·have HL:=Lib.hid (shp_true hlen.out hs hsh)
  go_enter Tryz.func155,Tryz.ntmps155
  go_wp2_with (first|(go_at_call 67;refine (sizeValid_any _ _).mono ?_;rintro e w' ⟨rfl,rfl⟩;rw [hs])|(go_at_call 175;refine (ofKind_any _ _ _ _ _ _).mono ?_;rintro e w1 ⟨rfl,hb1⟩;have hB1:=step hb0 hb1;have hx1:=hx0.below hsz0 hb1;rw [show ofk 5 (rval 5 A n c v)=.iface 187 (.agg #[.int .i64 5,.slice A n c,.int .i64 v]) from rfl])|(go_at_call 230;refine (apartShaped _ _ _ _ _ _ h2s h4s _).mono ?_;rintro e w2 ⟨rfl,hb2⟩;rw [hsh];have hB2:=step hB1 hb2;obtain ⟨j0,j1,j2⟩:=hx1.below (Nat.lt_of_lt_of_le hsz0 hb1.size) hb2)|(go_at_call 176;refine (cellsDiffer_any _ _ _ _ _ _ h2s h4s _ (h.below (hB2.mono hB)) hm hcap).mono ?_;rintro e w3 ⟨rfl,rfl⟩))
  go_ret
  exact ⟨by rw [HL.out];rfl,hB2⟩
theorem implRuleValid (A:Option Addr) (c n B:Nat) (xs:List Int) (k v size:Int) (w:World) (h:Rd w B A n xs) (hB:B<=w.heap.size) (hm:n<=1099511627776) (hcap:n<=c):
 Calls Tryz.prog 155 #[.agg #[.int .i64 k,.slice A n c,.int .i64 v],.int .i64 size] w fun e w'=>e=.returned (.bool (rv k xs v size))/\Below w.heap.size w w':=by
 have hx0:=rbox_new w k A n c v 88;have hb0:Below w.heap.size w (w.alloc (.cells #[.int .i64 k,.slice A n c,.int .i64 v] 88)):=(Below.refl _ _).alloc (Nat.le_refl _) _;obtain ⟨k0,k1,k2⟩:=id hx0;cases hs:inr size 2 4
 ·have HL:=Lib.hid (show rv k xs v size=false by simp [rv,hs])
  go_enter Tryz.func155,Tryz.ntmps155
  go_wp2_with (go_at_call 67;refine (sizeValid_any _ _).mono ?_;rintro e w' ⟨rfl,rfl⟩;rw [hs])
  go_ret
  exact ⟨by rw [HL.out];rfl,hb0⟩
 ·have hcase:k=1\/k=2\/k=3\/k=4\/k=5\/((k==1)=false/\(k==2)=false/\(k==3)=false/\(k==4)=false/\(k==5)=false):=by simp only [beq_eq_false_iff_ne];omega
  rcases hcase with rfl|rfl|rfl|rfl|rfl|⟨e1,e2,e3,e4,e5⟩
  ·exact ruleValid1 _ _ _ _ _ _ _ _ h hB hm hcap hs
  ·exact ruleValid2 _ _ _ _ _ _ _ _ h hB hm hcap hs
  ·exact ruleValid3 _ _ _ _ _ _ _ _ h hB hm hcap hs
  ·exact ruleValid4 _ _ _ _ _ _ _ _ h hB hm hcap hs
  ·exact ruleValid5 _ _ _ _ _ _ _ _ h hB hm hcap hs
  ·have HK:Hid (ofk k (rval k A n c v)=.nilIface):=Lib.hid (by
    unfold ofk
    rw [if_neg (by simpa using e1),if_neg (by simpa using e2),if_neg (by simpa using e3),if_neg (by simpa using e4),if_neg (by simpa using e5)])
   have HL:=Lib.hid (show rv k xs v size=false by
    have:kindOk k v xs.length size=false:=by
     unfold kindOk;rw [if_neg (by simpa using e1),if_neg (by simpa using e2),if_neg (by simpa using e3),if_neg (by simpa using e4),if_neg (by simpa using e5)]
    unfold rv
    rw [this,Bool.and_false])
   go_enter Tryz.func155,Tryz.ntmps155
   go_wp2_with (first|(go_at_call 67;refine (sizeValid_any _ _).mono ?_;rintro e w' ⟨rfl,rfl⟩;rw [hs])|(go_at_call 175;refine (ofKind_any _ _ _ _ _ _).mono ?_;rintro e w1 ⟨rfl,hb1⟩;have hB1:=step hb0 hb1;rw [HK.out]))
   go_ret
   exact ⟨by rw [HL.out];rfl,hB1⟩
end Go.Proofs.YtkeoflnmbcdmfaaGreatDoor
