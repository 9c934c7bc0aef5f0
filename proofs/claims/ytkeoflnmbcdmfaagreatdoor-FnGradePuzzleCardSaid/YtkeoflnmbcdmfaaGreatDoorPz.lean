import Derived.Test.YtkeoflnmbcdmfaaGreatDoorP5S
set_option maxRecDepth 8000
namespace Go.Proofs.YtkeoflnmbcdmfaaGreatDoor
open Go.ChangeShapes Go.WideShapes Go.ChangeAt Go.RowKit
theorem Ow.far {w w':World} {lo:Nat} {A:Option Addr} {n c:Nat} {xs:List Int} {row:Option Nat} (h:Ow w lo A n c xs) (hg:w.grownBy w' row) (hne:∀ g,(Value.slice A n c).ownBlock=some g->row≠some g):Ow w' lo A n c xs:=by
 refine World.ownsRow.kept h hg ?_
 cases e:(Value.slice A n c).ownBlock with
 |none=>exact .inl rfl
 |some g=>exact .inr (fun he=>hne g e he.symm)
theorem cell_other5 {w:World} {g g' k j:Nat} {v:Value} (h:g≠g'):(w.setCell ⟨g',k,none⟩ v).cell? ⟨g,j,none⟩=w.cell? ⟨g,j,none⟩:=by
 unfold World.cell?;rw [heap_setCell_other w ⟨g',k,none⟩ g v h]
theorem puz_info (s:Int) (Ag:Option Addr) (ng cg:Nat) (Ar:Option Addr) (nr cr:Nat):(Tryz.prog.info? 26).map (·.size)=some (#[Value.int .i64 s,.slice Ag ng cg,.slice Ar nr cr]:Array Value).size:=by
 show _=some 3
 kernel_rfl
theorem puz_one (s:Int) (Ag:Option Addr) (ng cg:Nat) (Ar:Option Addr) (nr cr:Nat):(#[Value.int .i64 s,.slice Ag ng cg,.slice Ar nr cr]:Array Value).all (·.oneCell')=true:=by simp [Value.oneCell']
theorem setRow_below5 {B g:Nat} {w w':World} {cs:Array Value} (h:Below B w w') (hg:B<=g):Below B w (w'.setRow g cs):=
 h.trans ⟨rfl,rfl,rfl,by simp,fun k hk=>by unfold World.setRow;simp only [Array.getElem?_modify];rw [if_neg (by omega)]⟩
theorem Ow.row5 {w:World} {lo n c g:Nat} {A:Option Addr} {xs:List Int} {cs:Array Value} (h:Ow w lo A n c xs) (hg:∀ b,(Value.slice A n c).ownBlock=some b->b≠g):Ow (w.setRow g cs) lo A n c xs:=
 h.far (row:=some g) ⟨rfl,rfl,rfl,by simp,fun k hk hne=>by unfold World.setRow;simp only [Array.getElem?_modify];rw [if_neg (fun e=>hne (by rw [e]))]⟩ (fun b hb e=>hg b hb (by injection e with e;exact e.symm))
end Go.Proofs.YtkeoflnmbcdmfaaGreatDoor
