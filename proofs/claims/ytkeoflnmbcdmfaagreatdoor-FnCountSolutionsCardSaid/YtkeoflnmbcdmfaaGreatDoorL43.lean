import Derived.Test.YtkeoflnmbcdmfaaGreatDoorLast
import Derived.Test.YtkeoflnmbcdmfaaGreatDoorPushAll
import Derived.Test.YtkeoflnmbcdmfaaGreatDoorOwn
import Derived.Test.YtkeoflnmbcdmfaaGreatDoorPut
set_option maxRecDepth 8000
namespace Go.Proofs.YtkeoflnmbcdmfaaGreatDoor
open Go.ChangeShapes Go.WideShapes Go.ChangeAt Go.RowKit
theorem wp_push_all {w:World} {o:Oper} {a:Act} {K:Act->World->Prop} {Q:Exit->Act->World->Prop} (s x:Operand)
 (ho:o.op=.call { callee:=.builtin .append,args:= #[s,x],argTypes:= #[23,23] })
 (lo:Nat) (A:Option Addr) (n c:Nat) (xs:List Int) (A2:Option Addr) (m c2 B:Nat) (ys:List Int) (hs:a.eval s=.slice A n c) (hx:a.eval x=.slice A2 m c2) (hown:Ow w lo A n c xs) (hr:Rd w B A2 m ys) (hmn:0<m\/n=0)
 (hn:n<=1099511627776) (hm:m<=1099511627776) (hlo:lo<=w.heap.size)
 (h:∀ A' c' w',Ow w' lo A' (n+m) c' (xs++ys)->w.grownBy w' (Value.slice A n c).ownBlock->K (a.put o.dst (.slice A' (n+m) c')) w'):o.wp Tryz.prog a w K Q:=by
 obtain ⟨A',c',w',hrun,h1,h2,h3⟩:=run_push_all o.type lo A n c xs A2 m c2 B ys hown hr hmn hn hm hlo;unfold Oper.wp execOp;simp only [ho,resolve,invoke,builtin,Sem.run_bind,Sem.run_pure,Result.andThen_ok,List.map_toArray,List.map_cons,List.map_nil,hs,hx,hrun];exact h A' c' w' h1 h2
abbrev o43_0:Oper:={ dst:=some 213,op:=.buildSlice 23 0 #[],type:=23,pos:="l20_draw.go:239",after:= #[],guard:=none }
abbrev o43_1:Oper:={ dst:=some 214,op:=.fieldAddr 88 (.tmp 18) 1,type:=0,pos:="l20_draw.go:239",after:= #[],guard:=none }
abbrev o43_2:Oper:={ dst:=some 215,op:=.load 23 (.tmp 214),type:=23,pos:="l20_draw.go:239",after:= #[⟨1,.data⟩],guard:=none }
abbrev o43_3:Oper:={ dst:=some 216,op:=.call { callee:=.builtin .append,args:= #[.tmp 213,.tmp 215],argTypes:= #[23,23] },type:=23,pos:="l20_draw.go:239",after:= #[⟨0,.data⟩,⟨2,.data⟩],guard:=none }
abbrev o43_4:Oper:={ dst:=some 217,op:=.fieldAddr 88 (.tmp 18) 1,type:=0,pos:="l20_draw.go:239",after:= #[],guard:=none }
abbrev o43_5:Oper:={ dst:=some 218,op:=.load 23 (.tmp 217),type:=23,pos:="l20_draw.go:239",after:= #[⟨4,.data⟩],guard:=none }
abbrev o43_6:Oper:={ dst:=some 219,op:=.indexAddr 23 (.tmp 218) (.const (.int .i64 0)),type:=0,pos:="l20_draw.go:239",after:= #[⟨5,.data⟩],guard:=none }
abbrev o43_7:Oper:={ dst:=some 220,op:=.load 3 (.tmp 219),type:=3,pos:="l20_draw.go:239",after:= #[⟨6,.data⟩],guard:=none }
abbrev o43_8:Oper:={ dst:=some 221,op:=.buildSlice 23 1 #[(0,.tmp 220)],type:=23,pos:="l20_draw.go:239",after:= #[⟨7,.data⟩],guard:=none }
abbrev o43_9:Oper:={ dst:=some 222,op:=.call { callee:=.builtin .append,args:= #[.tmp 216,.tmp 221],argTypes:= #[23,23] },type:=23,pos:="l20_draw.go:239",after:= #[⟨3,.data⟩,⟨8,.data⟩,⟨3,.chain⟩],guard:=none }
abbrev o43_10:Oper:={ dst:=some 223,op:=.fieldAddr 88 (.tmp 18) 1,type:=0,pos:="l20_draw.go:239",after:= #[⟨0,.phase⟩,⟨1,.phase⟩,⟨2,.phase⟩,⟨3,.phase⟩,⟨4,.phase⟩,⟨5,.phase⟩,⟨6,.phase⟩,⟨7,.phase⟩,⟨8,.phase⟩,⟨9,.phase⟩],guard:=none }
abbrev o43_11:Oper:={ dst:=none,op:=.store 23 (.tmp 223) (.tmp 222),type:=0,pos:="l20_draw.go:239",after:= #[⟨10,.data⟩,⟨9,.data⟩,⟨9,.chain⟩,⟨0,.phase⟩,⟨1,.phase⟩,⟨2,.phase⟩,⟨3,.phase⟩,⟨4,.phase⟩,⟨5,.phase⟩,⟨6,.phase⟩,⟨7,.phase⟩,⟨8,.phase⟩,⟨9,.phase⟩],guard:=none }
def ops43:Array Oper:= #[o43_0,o43_1,o43_2,o43_3,o43_4,o43_5,o43_6,o43_7,o43_8,o43_9,o43_10,o43_11]
def put43 (a:Act) (p s e i:Value) (u0 u3 u8 u9:Value):Act:=
 ((((((((((a.put (some 214) p).put (some 215) s).put (some 217) p).put (some 218) s).put (some 219) e).put (some 220) i).put (some 213) u0).put (some 216) u3).put (some 221) u8).put (some 222) u9).put (some 223) p
theorem tail43 {Q:Exit->Act->World->Prop} (d:Act) (w w5:World) (X b8 n c1:Nat) (A1:Option Addr) (xs:List Int) (x0:Int) (old:Value) (listed:Array Bool)
 (hr1:Region.ready .any ops43 listed=[9]) (hr2:Region.ready .any ops43 (listed.setIfInBounds 9 true)=[10]) (hr3:Region.ready .any ops43 ((listed.setIfInBounds 9 true).setIfInBounds 10 true)=[11]) (hr4:Region.ready .any ops43 (((listed.setIfInBounds 9 true).setIfInBounds 10 true).setIfInBounds 11 true)=[])
 (hsz:223<d.tmps.size) (h216:d.eval (.tmp 216)=.slice A1 n c1) (h221:d.eval (.tmp 221)=.slice (some ⟨b8,0,none⟩) 1 1) (h18:d.eval (.tmp 18)=.pointer (some ⟨X,0,none⟩))
 (hb:Below w.heap.size w w5) (hX:X<w.heap.size) (hc:w.cell? ⟨X,1,none⟩=some old) (hf:w.frozen? ⟨X,1,none⟩=false)
 (ho:Ow w5 w.heap.size A1 n c1 xs) (hr:Rd w5 w5.heap.size (some ⟨b8,0,none⟩) 1 [x0]) (hn:n<=1099511627776)
 (h:∀ A' c' w',Below w.heap.size w w'->Ow w' w.heap.size A' (n+1) c' (xs++[x0])->Q .normal ((d.put (some 222) (.slice A' (n+1) c')).put (some 223) (.pointer (some ⟨X,1,none⟩))) (w'.setCell ⟨X,1,none⟩ (.slice A' (n+1) c'))):
 wpAnyL Tryz.prog .any ops43 Q (fun w'=>Below w.heap.size w w') 11 3 listed d w5:=by
 refine wpAnyL_only (oi:=o43_9) hr1 rfl rfl ?_;refine wp_push_all (.tmp 216) (.tmp 221) rfl w.heap.size A1 n c1 xs (some ⟨b8,0,none⟩) 1 1 w5.heap.size [x0] h216 h221 ho hr (.inl (by omega)) hn (by omega) hb.size ?_;intro A' c' w6 ho6 hg6;have hb6:Below w.heap.size w w6:=hb.grown hg6 hb.size (fun k hk=>ho.own_lo k hk);refine ⟨fun _=>hb6,?_⟩;have f18:(d.put (some 222) (.slice A' (n+1) c')).eval (.tmp 18)=.pointer (some ⟨X,0,none⟩):=(eval_put_ne (by decide)).trans h18;have f222:(d.put (some 222) (.slice A' (n+1) c')).eval (.tmp 222)=.slice A' (n+1) c':=eval_put_same (by omega)
 have fs:223<(d.put (some 222) (.slice A' (n+1) c')).tmps.size:=by rw [size_put];exact hsz
 have H:=h A' c' w6 hb6 ho6
 show wpAnyL Tryz.prog .any ops43 Q _ 11 2 _ (d.put (some 222) (.slice A' (n+1) c')) w6
 generalize hD:d.put (some 222) (.slice A' (n+1) c')=D at f18 f222 fs H ⊢
 refine wpAnyL_only (oi:=o43_10) hr2 rfl rfl ?_
 have hrun0:(execOp D.eval o43_10).run Tryz.prog w6=.ok (.value (.pointer (some ⟨X,1,none⟩))) w6:=by
  unfold execOp;simp only [f18]
  go_simp
 unfold Oper.wp;rw [hrun0];refine ⟨fun _=>hb6,?_⟩;refine wpAnyL_only (oi:=o43_11) hr3 rfl rfl ?_
 show Oper.wp Tryz.prog o43_11 (D.put (some 223) (.pointer (some ⟨X,1,none⟩))) w6 _ Q
 have e1:(D.put (some 223) (.pointer (some ⟨X,1,none⟩))).eval (.tmp 223)=.pointer (some ⟨X,1,none⟩):=eval_put_same fs;have e2:(D.put (some 223) (.pointer (some ⟨X,1,none⟩))).eval (.tmp 222)=.slice A' (n+1) c':=(eval_put_ne (by decide)).trans f222;have hc6:w6.cell? ⟨X,1,none⟩=some old:=(hb6.cell (p:=⟨X,1,none⟩) hX).trans hc;have hf6:w6.frozen? ⟨X,1,none⟩=false:=(World.frozen?_of_block (hb6.block X hX)).trans hf
 generalize hE:D.put (some 223) (.pointer (some ⟨X,1,none⟩))=E at e1 e2 H ⊢
 have hrun:(execOp E.eval o43_11).run Tryz.prog w6=.ok .skip (w6.setCell ⟨X,1,none⟩ (.slice A' (n+1) c')):=by
  unfold execOp;simp only [e1,e2]
  go_simp
 unfold Oper.wp;rw [hrun];exact ⟨fun e=>absurd rfl e,wpAnyL_done hr4 H⟩
theorem panic_move {P:Program} {fn:Func} {R:Ending->World->Prop} {K:Act->World->Prop} {id:Nat} (c:List PanicEntry) (a a':Act) (w:World) (he:a.defers=a'.defers)
 (h:Exit.inBlock id (Exit.then K (bodyPost P fn R)) (.panic c) a w):Exit.inBlock id (Exit.then K (bodyPost P fn R)) (.panic c) a' w:=by
 have h':a.defers=[]/\R (.panicked c) w:=h
 show a'.defers=[]/\R (.panicked c) w
 exact ⟨he▸h'.1,h'.2⟩
theorem region43 {Q:Exit->Act->World->Prop} (a:Act) (w:World) (X g n c:Nat) (xs:List Int) (hsz:223<a.tmps.size) (hX:a.eval (.tmp 18)=.pointer (some ⟨X,0,none⟩)) (hXw:X<w.heap.size)
 (hc1:w.cell? ⟨X,1,none⟩=some (.slice (some ⟨g,0,none⟩) n c)) (hf1:w.frozen? ⟨X,1,none⟩=false) (hr:Rd w w.heap.size (some ⟨g,0,none⟩) n xs) (hn0:0<n) (hn:n<=1099511627776)
 (hQ:∀ c a a' w,a.defers=a'.defers->Q (.panic c) a w->Q (.panic c) a' w)
 (h:∀ (u0 u3 u8 u9:Value) (A':Option Addr) (c':Nat) (w':World),Below w.heap.size w w'->Ow w' w.heap.size A' (n+1) c' (xs++[nth xs 0])->
   Q .normal (put43 a (.pointer (some ⟨X,1,none⟩)) (.slice (some ⟨g,0,none⟩) n c) (.pointer (some ⟨g,0,none⟩)) (.int .i64 (nth xs 0)) u0 u3 u8 u9) (w'.setCell ⟨X,1,none⟩ (.slice A' (n+1) c'))):
 (Code.region 43 ops43 true).wp Tryz.prog Q a w:=by
 obtain ⟨b0,off,e0,hgw,hg⟩:=hr.at_ hn0;cases e0;rw [Nat.zero_add] at hg;refine wp_region_last (S:=fun w'=>Below w.heap.size w w') (z:=11) (by kernel_rfl) ?_;have hB0:Below w.heap.size w { w with drawn:=w.drawn+1 }:=(Below.refl _ _).drew;obtain ⟨W,hW⟩:∃ W,({ w with drawn:=w.drawn+1 }:World)=W:=⟨_,rfl⟩;rw [hW] at hB0 ⊢
 have hS1:∀ w',Below w.heap.size w w'->w'.cell? ⟨X,1,none⟩=some (.slice (some ⟨g,0,none⟩) n c):=fun w' hb=>(hb.cell (p:=⟨X,1,none⟩) hXw).trans hc1
 have hS2:∀ w',Below w.heap.size w w'->w'.cell? ⟨g,0,none⟩=some (.int .i64 (nth xs 0)):=fun w' hb=>(hb.cell (p:=⟨g,0,none⟩) hgw).trans hg
 have hnI:(0:Int)<n:=by omega
 have e18:=hX;have s0:=hsz
 show wpAnyL Tryz.prog .any ops43 Q _ 11 12 _ _ _
 have r1:∀ w',Below w.heap.size w w'->(execOp a.eval o43_1).run Tryz.prog w'=.ok (.value (.pointer (some ⟨X,1,none⟩))) w':=fun w' hb=>by
  have hA:=hS1 w' hb;have hC:=hS2 w' hb;unfold execOp;simp only [e18]
  go_simp
 refine wpAnyL_take [1,2,3,9,11] (i:=1) (oi:=o43_1) (v:=.pointer (some ⟨X,1,none⟩)) rfl (by kernel_rfl) (by kernel_rfl) (by kernel_rfl) (by kernel_rfl) (by kernel_rfl) (by decide) (fun c x w=>hQ c _ _ w rfl) (Or.inl ⟨rfl,r1⟩) hB0 ?_
 show wpAnyL Tryz.prog .any ops43 Q _ 11 11 _ (a.put (some 214) (.pointer (some ⟨X,1,none⟩))) _
 have s1:223<(a.put (some 214) (.pointer (some ⟨X,1,none⟩))).tmps.size:=by rw [size_put];exact s0
 have e18':(a.put (some 214) (.pointer (some ⟨X,1,none⟩))).eval (.tmp 18)=.pointer (some ⟨X,0,none⟩):=(eval_put_ne (by decide)).trans e18;have e214:(a.put (some 214) (.pointer (some ⟨X,1,none⟩))).eval (.tmp 214)=.pointer (some ⟨X,1,none⟩):=eval_put_same (by omega)
 generalize hA1:a.put (some 214) (.pointer (some ⟨X,1,none⟩))=a1 at e18' e214 s1 ⊢
 clear e18;have e18:=e18';clear e18'
 have r2:∀ w',Below w.heap.size w w'->(execOp a1.eval o43_2).run Tryz.prog w'=.ok (.value (.slice (some ⟨g,0,none⟩) n c)) w':=fun w' hb=>by
  have hA:=hS1 w' hb;have hC:=hS2 w' hb;unfold execOp;simp only [e214]
  go_simp
 refine wpAnyL_take [2,3,9,11] (i:=2) (oi:=o43_2) (v:=.slice (some ⟨g,0,none⟩) n c) rfl (by kernel_rfl) (by kernel_rfl) (by kernel_rfl) (by kernel_rfl) (by kernel_rfl) (by decide) (fun c x w=>hQ c _ _ w rfl) (Or.inl ⟨rfl,r2⟩) hB0 ?_
 show wpAnyL Tryz.prog .any ops43 Q _ 11 10 _ (a1.put (some 215) (.slice (some ⟨g,0,none⟩) n c)) _
 have s2:223<(a1.put (some 215) (.slice (some ⟨g,0,none⟩) n c)).tmps.size:=by rw [size_put];exact s1
 have e18':(a1.put (some 215) (.slice (some ⟨g,0,none⟩) n c)).eval (.tmp 18)=.pointer (some ⟨X,0,none⟩):=(eval_put_ne (by decide)).trans e18;have e214':(a1.put (some 215) (.slice (some ⟨g,0,none⟩) n c)).eval (.tmp 214)=.pointer (some ⟨X,1,none⟩):=(eval_put_ne (by decide)).trans e214;have e215:(a1.put (some 215) (.slice (some ⟨g,0,none⟩) n c)).eval (.tmp 215)=.slice (some ⟨g,0,none⟩) n c:=eval_put_same (by omega)
 generalize hA2:a1.put (some 215) (.slice (some ⟨g,0,none⟩) n c)=a2 at e18' e214' e215 s2 ⊢
 clear e18;have e18:=e18';clear e18';clear e214;have e214:=e214';clear e214'
 have r4:∀ w',Below w.heap.size w w'->(execOp a2.eval o43_4).run Tryz.prog w'=.ok (.value (.pointer (some ⟨X,1,none⟩))) w':=fun w' hb=>by
  have hA:=hS1 w' hb;have hC:=hS2 w' hb;unfold execOp;simp only [e18]
  go_simp
 refine wpAnyL_take [4,5,6,7,8,9,11] (i:=4) (oi:=o43_4) (v:=.pointer (some ⟨X,1,none⟩)) rfl (by kernel_rfl) (by kernel_rfl) (by kernel_rfl) (by kernel_rfl) (by kernel_rfl) (by decide) (fun c x w=>hQ c _ _ w rfl) (Or.inl ⟨rfl,r4⟩) hB0 ?_
 show wpAnyL Tryz.prog .any ops43 Q _ 11 9 _ (a2.put (some 217) (.pointer (some ⟨X,1,none⟩))) _
 have s3:223<(a2.put (some 217) (.pointer (some ⟨X,1,none⟩))).tmps.size:=by rw [size_put];exact s2
 have e18':(a2.put (some 217) (.pointer (some ⟨X,1,none⟩))).eval (.tmp 18)=.pointer (some ⟨X,0,none⟩):=(eval_put_ne (by decide)).trans e18;have e214':(a2.put (some 217) (.pointer (some ⟨X,1,none⟩))).eval (.tmp 214)=.pointer (some ⟨X,1,none⟩):=(eval_put_ne (by decide)).trans e214;have e215':(a2.put (some 217) (.pointer (some ⟨X,1,none⟩))).eval (.tmp 215)=.slice (some ⟨g,0,none⟩) n c:=(eval_put_ne (by decide)).trans e215;have e217:(a2.put (some 217) (.pointer (some ⟨X,1,none⟩))).eval (.tmp 217)=.pointer (some ⟨X,1,none⟩):=eval_put_same (by omega)
 generalize hA3:a2.put (some 217) (.pointer (some ⟨X,1,none⟩))=a3 at e18' e214' e215' e217 s3 ⊢
 clear e18;have e18:=e18';clear e18';clear e214;have e214:=e214';clear e214';clear e215;have e215:=e215';clear e215'
 have r5:∀ w',Below w.heap.size w w'->(execOp a3.eval o43_5).run Tryz.prog w'=.ok (.value (.slice (some ⟨g,0,none⟩) n c)) w':=fun w' hb=>by
  have hA:=hS1 w' hb;have hC:=hS2 w' hb;unfold execOp;simp only [e217]
  go_simp
 refine wpAnyL_take [5,6,7,8,9,11] (i:=5) (oi:=o43_5) (v:=.slice (some ⟨g,0,none⟩) n c) rfl (by kernel_rfl) (by kernel_rfl) (by kernel_rfl) (by kernel_rfl) (by kernel_rfl) (by decide) (fun c x w=>hQ c _ _ w rfl) (Or.inl ⟨rfl,r5⟩) hB0 ?_
 show wpAnyL Tryz.prog .any ops43 Q _ 11 8 _ (a3.put (some 218) (.slice (some ⟨g,0,none⟩) n c)) _
 have s4:223<(a3.put (some 218) (.slice (some ⟨g,0,none⟩) n c)).tmps.size:=by rw [size_put];exact s3
 have e18':(a3.put (some 218) (.slice (some ⟨g,0,none⟩) n c)).eval (.tmp 18)=.pointer (some ⟨X,0,none⟩):=(eval_put_ne (by decide)).trans e18;have e214':(a3.put (some 218) (.slice (some ⟨g,0,none⟩) n c)).eval (.tmp 214)=.pointer (some ⟨X,1,none⟩):=(eval_put_ne (by decide)).trans e214;have e215':(a3.put (some 218) (.slice (some ⟨g,0,none⟩) n c)).eval (.tmp 215)=.slice (some ⟨g,0,none⟩) n c:=(eval_put_ne (by decide)).trans e215;have e217':(a3.put (some 218) (.slice (some ⟨g,0,none⟩) n c)).eval (.tmp 217)=.pointer (some ⟨X,1,none⟩):=(eval_put_ne (by decide)).trans e217
 have e218:(a3.put (some 218) (.slice (some ⟨g,0,none⟩) n c)).eval (.tmp 218)=.slice (some ⟨g,0,none⟩) n c:=eval_put_same (by omega)
 generalize hA4:a3.put (some 218) (.slice (some ⟨g,0,none⟩) n c)=a4 at e18' e214' e215' e217' e218 s4 ⊢
 clear e18;have e18:=e18';clear e18';clear e214;have e214:=e214';clear e214';clear e215;have e215:=e215';clear e215';clear e217;have e217:=e217';clear e217'
 have r6:∀ w',Below w.heap.size w w'->(execOp a4.eval o43_6).run Tryz.prog w'=.ok (.value (.pointer (some ⟨g,0,none⟩))) w':=fun w' hb=>by
  have hA:=hS1 w' hb;have hC:=hS2 w' hb;unfold execOp;simp only [e218]
  go_simp
 refine wpAnyL_take [6,7,8,9,11] (i:=6) (oi:=o43_6) (v:=.pointer (some ⟨g,0,none⟩)) rfl (by kernel_rfl) (by kernel_rfl) (by kernel_rfl) (by kernel_rfl) (by kernel_rfl) (by decide) (fun c x w=>hQ c _ _ w rfl) (Or.inl ⟨rfl,r6⟩) hB0 ?_
 show wpAnyL Tryz.prog .any ops43 Q _ 11 7 _ (a4.put (some 219) (.pointer (some ⟨g,0,none⟩))) _
 have s5:223<(a4.put (some 219) (.pointer (some ⟨g,0,none⟩))).tmps.size:=by rw [size_put];exact s4
 have e18':(a4.put (some 219) (.pointer (some ⟨g,0,none⟩))).eval (.tmp 18)=.pointer (some ⟨X,0,none⟩):=(eval_put_ne (by decide)).trans e18;have e214':(a4.put (some 219) (.pointer (some ⟨g,0,none⟩))).eval (.tmp 214)=.pointer (some ⟨X,1,none⟩):=(eval_put_ne (by decide)).trans e214;have e215':(a4.put (some 219) (.pointer (some ⟨g,0,none⟩))).eval (.tmp 215)=.slice (some ⟨g,0,none⟩) n c:=(eval_put_ne (by decide)).trans e215;have e217':(a4.put (some 219) (.pointer (some ⟨g,0,none⟩))).eval (.tmp 217)=.pointer (some ⟨X,1,none⟩):=(eval_put_ne (by decide)).trans e217
 have e218':(a4.put (some 219) (.pointer (some ⟨g,0,none⟩))).eval (.tmp 218)=.slice (some ⟨g,0,none⟩) n c:=(eval_put_ne (by decide)).trans e218;have e219:(a4.put (some 219) (.pointer (some ⟨g,0,none⟩))).eval (.tmp 219)=.pointer (some ⟨g,0,none⟩):=eval_put_same (by omega)
 generalize hA5:a4.put (some 219) (.pointer (some ⟨g,0,none⟩))=a5 at e18' e214' e215' e217' e218' e219 s5 ⊢
 clear e18;have e18:=e18';clear e18';clear e214;have e214:=e214';clear e214';clear e215;have e215:=e215';clear e215';clear e217;have e217:=e217';clear e217';clear e218;have e218:=e218';clear e218'
 have r7:∀ w',Below w.heap.size w w'->(execOp a5.eval o43_7).run Tryz.prog w'=.ok (.value (.int .i64 (nth xs 0))) w':=fun w' hb=>by
  have hA:=hS1 w' hb;have hC:=hS2 w' hb;unfold execOp;simp only [e219]
  go_simp
 refine wpAnyL_take [7,8,9,11] (i:=7) (oi:=o43_7) (v:=.int .i64 (nth xs 0)) rfl (by kernel_rfl) (by kernel_rfl) (by kernel_rfl) (by kernel_rfl) (by kernel_rfl) (by decide) (fun c x w=>hQ c _ _ w rfl) (Or.inl ⟨rfl,r7⟩) hB0 ?_
 show wpAnyL Tryz.prog .any ops43 Q _ 11 6 _ (a5.put (some 220) (.int .i64 (nth xs 0))) _
 have s6:223<(a5.put (some 220) (.int .i64 (nth xs 0))).tmps.size:=by rw [size_put];exact s5
 have e18':(a5.put (some 220) (.int .i64 (nth xs 0))).eval (.tmp 18)=.pointer (some ⟨X,0,none⟩):=(eval_put_ne (by decide)).trans e18;have e214':(a5.put (some 220) (.int .i64 (nth xs 0))).eval (.tmp 214)=.pointer (some ⟨X,1,none⟩):=(eval_put_ne (by decide)).trans e214;have e215':(a5.put (some 220) (.int .i64 (nth xs 0))).eval (.tmp 215)=.slice (some ⟨g,0,none⟩) n c:=(eval_put_ne (by decide)).trans e215;have e217':(a5.put (some 220) (.int .i64 (nth xs 0))).eval (.tmp 217)=.pointer (some ⟨X,1,none⟩):=(eval_put_ne (by decide)).trans e217;have e218':(a5.put (some 220) (.int .i64 (nth xs 0))).eval (.tmp 218)=.slice (some ⟨g,0,none⟩) n c:=(eval_put_ne (by decide)).trans e218
 have e219':(a5.put (some 220) (.int .i64 (nth xs 0))).eval (.tmp 219)=.pointer (some ⟨g,0,none⟩):=(eval_put_ne (by decide)).trans e219;have e220:(a5.put (some 220) (.int .i64 (nth xs 0))).eval (.tmp 220)=.int .i64 (nth xs 0):=eval_put_same (by omega)
 generalize hA6:a5.put (some 220) (.int .i64 (nth xs 0))=a6 at e18' e214' e215' e217' e218' e219' e220 s6 ⊢
 clear e18;have e18:=e18';clear e18';clear e214;have e214:=e214';clear e214';clear e215;have e215:=e215';clear e215';clear e217;have e217:=e217';clear e217';clear e218;have e218:=e218';clear e218';clear e219;have e219:=e219';clear e219'
 have done:∀ (d:Act) (w5:World) (b8 c1:Nat) (A1:Option Addr) (listed:Array Bool) (u0 u3 u8:Value),d=((a6.put (some 213) u0).put (some 216) u3).put (some 221) u8->
     Region.ready .any ops43 listed=[9]->Region.ready .any ops43 (listed.setIfInBounds 9 true)=[10]->Region.ready .any ops43 ((listed.setIfInBounds 9 true).setIfInBounds 10 true)=[11]->Region.ready .any ops43 (((listed.setIfInBounds 9 true).setIfInBounds 10 true).setIfInBounds 11 true)=[]->
     u3=.slice A1 n c1->u8=.slice (some ⟨b8,0,none⟩) 1 1->Below w.heap.size w w5->Ow w5 w.heap.size A1 n c1 xs->Rd w5 w5.heap.size (some ⟨b8,0,none⟩) 1 [nth xs 0]->
     wpAnyL Tryz.prog .any ops43 Q (fun w'=>Below w.heap.size w w') 11 3 listed d w5:=by
  rintro d w5 b8 c1 A1 listed u0 u3 u8 rfl hr1 hr2 hr3 hr4 rfl rfl hb ho hrd;refine tail43 _ w w5 X b8 n c1 A1 xs (nth xs 0) _ listed hr1 hr2 hr3 hr4 (by simp only [size_put];exact s6) ?_ (eval_put_same (by simp only [size_put];omega)) ?_ hb hXw hc1 hf1 ho hrd hn ?_
  ·rw [eval_put_ne (by decide),eval_put_same (by simp only [size_put];omega)]
  ·rw [eval_put_ne (by decide),eval_put_ne (by decide),eval_put_ne (by decide)];exact e18
  ·intro A' c' w' hb' ho';have:=h u0 (.slice A1 n c1) (.slice (some ⟨b8,0,none⟩) 1 1) (.slice A' (n+1) c') A' c' w' hb' ho';simp only [put43,hA1,hA2,hA3,hA4,hA5,hA6] at this;exact this
 have lit0:∀ (d:Act) (w5:World) (K:Act->World->Prop),K (d.put (some 213) (.slice (some ⟨w5.heap.size,0,none⟩) 0 0)) (w5.alloc (.cells #[] 3))->Oper.wp Tryz.prog o43_0 d w5 K Q:=fun d w5 K hK=>by
  have hrun:(execOp d.eval o43_0).run Tryz.prog w5=.ok (.value (.slice (some ⟨w5.heap.size,0,none⟩) 0 0)) (w5.alloc (.cells #[] 3)):=by
   unfold execOp
   go_simp
  unfold Oper.wp;rw [hrun];exact hK
 have lit8:∀ (d:Act) (w5:World) (K:Act->World->Prop),d.eval (.tmp 220)=.int .i64 (nth xs 0)->K (d.put (some 221) (.slice (some ⟨w5.heap.size,0,none⟩) 1 1)) (w5.alloc (.cells #[.int .i64 (nth xs 0)] 3))->Oper.wp Tryz.prog o43_8 d w5 K Q:=fun d w5 K he hK=>by
  have hrun:(execOp d.eval o43_8).run Tryz.prog w5=.ok (.value (.slice (some ⟨w5.heap.size,0,none⟩) 1 1)) (w5.alloc (.cells #[.int .i64 (nth xs 0)] 3)):=by
   unfold execOp;simp only [List.map_toArray,List.map_cons,List.map_nil,he]
   go_simp
  unfold Oper.wp;rw [hrun];exact hK
 have new1:∀ w5:World,Rd (w5.alloc (.cells #[.int .i64 (nth xs 0)] 3)) (w5.heap.size+1) (some ⟨w5.heap.size,0,none⟩) 1 [nth xs 0]:=fun w5=>⟨rfl,fun _=>⟨w5.heap.size,0,rfl,by omega,fun k hk=>by
  obtain rfl:k=0:=by omega
  exact cell_of_row _ _ 0 _ _ (0,0) (heap_alloc_new w5 _)⟩⟩
 have app3:∀ (d:Act) (w5:World) (b0:Nat) (K:Act->World->Prop),d.eval (.tmp 213)=.slice (some ⟨b0,0,none⟩) 0 0->d.eval (.tmp 215)=.slice (some ⟨g,0,none⟩) n c->Ow w5 w.heap.size (some ⟨b0,0,none⟩) 0 0 []->Below w.heap.size w w5->
     (∀ A1 c1 w6,Ow w6 w.heap.size A1 n c1 xs->w5.grownBy w6 (Value.slice (some ⟨b0,0,none⟩) 0 0).ownBlock->Below w.heap.size w w6->K (d.put (some 216) (.slice A1 n c1)) w6)->Oper.wp Tryz.prog o43_3 d w5 K Q:=fun d w5 b0 K h1 h2 ho hb hK=>by
  refine wp_push_all (.tmp 213) (.tmp 215) rfl w.heap.size _ 0 0 [] _ n c w.heap.size xs h1 h2 ho (hr.below hb) (.inr rfl) (by omega) hn hb.size ?_;intro A1 c1 w6 ho6 hg6;rw [Nat.zero_add] at ho6 ⊢;rw [List.nil_append] at ho6;exact hK A1 c1 w6 ho6 hg6 (hb.grown hg6 hb.size (fun k hk=>ho.own_lo k hk))
 have made:∀ w5:World,Below w.heap.size w w5->Ow (w5.alloc (.cells #[] 3)) w.heap.size (some ⟨w5.heap.size,0,none⟩) 0 0 []:=fun w5 hb=>Ow.made0 _ _ hb.size
 have hBa:∀ (w5:World) (o:Obj),Below w.heap.size w w5->Below w.heap.size w (w5.alloc o):=fun w5 o hb=>hb.alloc hb.size o
 refine wpAnyL_two (i:=0) (j:=8) (oi:=o43_0) (oj:=o43_8) (by kernel_rfl) rfl rfl rfl rfl ?first ?second
 case first=>
  refine lit0 _ _ _ ?_;have hB1:=hBa W (.cells #[] 3) hB0;have ho1:=made W hB0;refine ⟨fun _=>hB1,?_⟩;refine wpAnyL_two (i:=3) (j:=8) (oi:=o43_3) (oj:=o43_8) (by kernel_rfl) rfl rfl rfl rfl ?fa ?fb
  case fa=>
   refine app3 _ _ _ _ (eval_put_same (by omega)) ((eval_put_ne (by decide)).trans e215) ho1 hB1 ?_;intro A1 c1 w6 ho6 _ hb6;refine ⟨fun _=>hb6,?_⟩;refine wpAnyL_only (i:=8) (oi:=o43_8) (by kernel_rfl) rfl rfl ?_;refine lit8 _ _ _ (by rw [eval_put_ne (by decide),eval_put_ne (by decide)];exact e220) ?_;refine ⟨fun _=>hBa _ _ hb6,?_⟩;exact done _ _ _ _ _ _ _ _ _ rfl (by kernel_rfl) (by kernel_rfl) (by kernel_rfl) (by kernel_rfl) rfl rfl (hBa _ _ hb6) (ho6.below ((Below.refl _ _).alloc (Nat.le_refl _) _)) (by rw [World.size_alloc];exact new1 _)
  case fb=>
   refine lit8 _ _ _ (by rw [eval_put_ne (by decide)];exact e220) ?_;have hB2:=hBa _ (.cells #[.int .i64 (nth xs 0)] 3) hB1;refine ⟨fun _=>hB2,?_⟩;refine wpAnyL_only (i:=3) (oi:=o43_3) (by kernel_rfl) rfl rfl ?_;refine app3 _ _ _ _ (by rw [eval_put_ne (by decide),eval_put_same (by omega)]) (by rw [eval_put_ne (by decide),eval_put_ne (by decide)];exact e215) (ho1.below ((Below.refl _ _).alloc (Nat.le_refl _) _)) hB2 ?_;intro A1 c1 w6 ho6 hg6 hb6;refine ⟨fun _=>hb6,?_⟩;refine done _ _ _ _ _ _ _ _ _ (Act.put_comm _ _ _ (by intro d h1 h2;cases h1;cases h2)) (by kernel_rfl) (by kernel_rfl) (by kernel_rfl) (by kernel_rfl) rfl rfl hb6 ho6 ?_
   have hrd:=Rd.grown (G:=W.heap.size) (new1 (W.alloc (.cells #[] 3))) hg6 (fun b off e=>by cases e;rw [World.size_alloc];omega) (by simp)
   exact ⟨hrd.1,fun hn=>by
    obtain ⟨b,off,e,hl,hc⟩:=hrd.2 hn
    exact ⟨b,off,e,cell_lt (hc 0 hn),hc⟩⟩
 case second=>
  refine lit8 _ _ _ e220 ?_;have hB1:=hBa W (.cells #[.int .i64 (nth xs 0)] 3) hB0;refine ⟨fun _=>hB1,?_⟩;refine wpAnyL_only (i:=0) (oi:=o43_0) (by kernel_rfl) rfl rfl ?_;refine lit0 _ _ _ ?_;have hB2:=hBa _ (.cells #[] 3) hB1;have ho1:=made _ hB1;refine ⟨fun _=>hB2,?_⟩;refine wpAnyL_only (i:=3) (oi:=o43_3) (by kernel_rfl) rfl rfl ?_;refine app3 _ _ _ _ (eval_put_same (by simp only [size_put];omega)) (by rw [eval_put_ne (by decide),eval_put_ne (by decide)];exact e215) ho1 hB2 ?_;intro A1 c1 w6 ho6 hg6 hb6;refine ⟨fun _=>hb6,?_⟩;refine done _ _ _ _ _ _ _ _ _ ((congrArg (fun x:Act=>x.put (some 216) (.slice A1 n c1)) (Act.put_comm a6 _ _ (by intro d h1 h2;cases h1;cases h2))).trans (Act.put_comm _ _ _ (by intro d h1 h2;cases h1;cases h2))) (by kernel_rfl) (by kernel_rfl) (by kernel_rfl) (by kernel_rfl) rfl rfl hb6 ho6 ?_
  have hrd:=Rd.grown (G:=(W.alloc (.cells #[.int .i64 (nth xs 0)] 3)).heap.size) ((new1 W).below ((Below.refl _ _).alloc (by simp) (.cells #[] 3))) hg6 (fun b off e=>by cases e;rw [World.size_alloc];omega) (by simp)
  exact ⟨hrd.1,fun hn=>by
   obtain ⟨b,off,e,hl,hc⟩:=hrd.2 hn
   exact ⟨b,off,e,cell_lt (hc 0 hn),hc⟩⟩
end Go.Proofs.YtkeoflnmbcdmfaaGreatDoor
