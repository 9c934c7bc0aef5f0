import Derived.Test.YtkeoflnmbcdmfaaGreatDoorDrawG
import Derived.Deep.RegionWith
namespace Go.Proofs.YtkeoflnmbcdmfaaGreatDoor
open Go.ChangeShapes Go.WideShapes Go.ChangeAt Go.RowKit
theorem grown_at {w w':World} {G:Nat} (h:w.grownBy w' (some G)):∀ b i,G<b->b<w.heap.size->w'.cell? ⟨b,i,none⟩=w.cell? ⟨b,i,none⟩:=
 fun b i h1 h2=>World.cell?_of_block (a:=⟨b,i,none⟩) (h.block b h2 (fun e=>by injection e;omega))
theorem grown_lt {w w':World} {G:Nat} (h:w.grownBy w' (some G)):∀ b,b<w.heap.size->b<w'.heap.size:=fun _ h1=>Nat.lt_of_lt_of_le h1 h.size
theorem grown_le {w w':World} {G:Nat} (h:w.grownBy w' (some G)):∀ b,b<w.heap.size->b<=w'.heap.size:=fun _ h1=>Nat.le_of_lt (Nat.lt_of_lt_of_le h1 h.size)
theorem bg0 {w0 w w':World} (hb:Below w0.heap.size w0 w) (hg:w.grownBy w' (some w0.heap.size)):Below w0.heap.size w0 w':=hb.trans (grown_below hg (Nat.le_refl _) hb.size)
theorem bg0d {w0 w w':World} (hb:Below w0.heap.size w0 w) (hg:w.drew.grownBy w' (some w0.heap.size)):Below w0.heap.size w0 w':=bg0 hb.drew hg
theorem bg1 {w0 w w':World} {o:Obj} (hb:Below w0.heap.size w0 w) (hg:(w.alloc o).grownBy w' (some w0.heap.size)):Below w0.heap.size w0 w':=bg0 (hb.alloc hb.size o) hg
theorem bg1d {w0 w w':World} {o:Obj} (hb:Below w0.heap.size w0 w) (hg:(w.alloc o).drew.grownBy w' (some w0.heap.size)):Below w0.heap.size w0 w':=bg0 (hb.alloc hb.size o).drew hg
theorem bg2 {w0 w w':World} {o o':Obj} (hb:Below w0.heap.size w0 w) (hg:((w.alloc o).alloc o').grownBy w' (some w0.heap.size)):Below w0.heap.size w0 w':=bg1 (hb.alloc hb.size o) hg
theorem grown_lt1 {w w':World} {G:Nat} {o:Obj} (h:(w.alloc o).grownBy w' (some G)):w.heap.size<w'.heap.size/\w.heap.size<=w'.heap.size:=by
 have:=h.size;rw [World.size_alloc] at this;omega
theorem grown_lt1d {w w':World} {G:Nat} {o:Obj} (h:(w.alloc o).drew.grownBy w' (some G)):w.heap.size<w'.heap.size/\w.heap.size<=w'.heap.size:=by
 have:=h.size;rw [World.size_drew,World.size_alloc] at this;omega
theorem grown_lt2 {w w':World} {G:Nat} {o o':Obj} (h:((w.alloc o).alloc o').grownBy w' (some G)):(w.heap.size<w'.heap.size/\w.heap.size<=w'.heap.size)/\w.heap.size+1<w'.heap.size:=by
 have:=h.size;rw [World.size_alloc,World.size_alloc] at this;omega
theorem Rdr.alloc1 {w:World} {B P:Nat} (h:Rdr w B B P) (o:Obj):Rdr (w.alloc o) B B P:=h.alloc (Nat.le_of_lt h.lt) o
theorem Rdr.alloc2 {w:World} {B P:Nat} (h:Rdr w B B P) (o o':Obj):Rdr ((w.alloc o).alloc o') B B P:=(h.alloc1 o).alloc1 o'
end Go.Proofs.YtkeoflnmbcdmfaaGreatDoor
