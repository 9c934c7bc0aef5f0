import Derived.Test.YtkeoflnmbcdmfaaGreatDoorC3
namespace Go.Proofs.YtkeoflnmbcdmfaaGreatDoor
open Go.ChangeShapes Go.WideShapes Go.ChangeAt Go.RowKit
def rIx (s:Int) (k j:Nat):Int:=(k:Int)/s*s+j
def cIx (s:Int) (k j:Nat):Int:=(j:Int)*s+(k:Int)%s
def ok3 (xs:List Int) (s:Int) (k:Nat) (v:Int) (j:Nat):Bool:=(rIx s k j==(k:Int)||nth xs (rIx s k j).toNat != v)&&(cIx s k j==(k:Int)||nth xs (cIx s k j).toNat != v)
def okTo3 (xs:List Int) (s:Int) (k:Nat) (v:Int):Nat->Bool
 |0=>true
 |j+1=>okTo3 xs s k v j&&ok3 xs s k v j
def candTo (xs:List Int) (s:Int) (k:Nat):Nat->Nat
 |0=>0
 |v+1=>if okTo3 xs s k ((v:Int)+1) s.toNat=true then candTo xs s k v|||2^(v+1) else candTo xs s k v
def candN (xs:List Int) (s:Int) (k:Nat):Nat:=if 0<nth xs k then 2^(nth xs k).toNat else candTo xs s k s.toNat
def candG (xs:List Int) (s:Int) (k:Nat):Int:=(candN xs s k:Int)
def candL (xs:List Int) (s:Int):List Int:=if gv xs s=true then mapTo (candG xs s) xs.length else []
theorem candTo_lt (xs:List Int) (s:Int) (k v:Nat) (hv:v<=4):candTo xs s k v<32:=by
 induction v with
 |zero=>simp [candTo]
 |succ v ih=>
  simp only [candTo]
  split
  ·exact Nat.or_lt_two_pow (n:=5) (ih (by omega)) (Nat.pow_lt_pow_right (by omega) (by omega))
  ·exact ih (by omega)
theorem or_int (a v:Nat) (ha:a<32) (hv:v<=4):bits .or .i64 (a:Int) (wrap64 (2^v))=((a|||2^v:Nat):Int):=by
 have hlt:2^v<2^5:=Nat.pow_lt_pow_right (by omega) (by omega)
 have c:((2:Int)^v)=((2^v:Nat):Int):=by simp
 rw [c]
 generalize 2^v=p at*
 rw [IntWalk.wrap64_in _ ⟨by omega,by omega⟩,i64_or_nat _ _ (by omega) (by omega)]
theorem two_pow_nat (v:Nat) (hv:v<=4):wrap64 (2^v)=((2^v:Nat):Int):=by
 have hlt:2^v<2^5:=Nat.pow_lt_pow_right (by omega) (by omega)
 have c:((2:Int)^v)=((2^v:Nat):Int):=by simp
 rw [c]
 generalize 2^v=p at*
 exact IntWalk.wrap64_in _ ⟨by omega,by omega⟩
theorem ix_facts {s:Int} {n k j:Nat} (h2:2<=s) (h4:s<=4) (hn:(n:Int)=s*s) (hk:k<n) (hj:(j:Int)<s):
 (0<=rIx s k j/\rIx s k j<n)/\(0<=cIx s k j/\cIx s k j<n)/\(0<=(k:Int)/s/\(k:Int)/s<s)/\(0<=(k:Int)%s/\(k:Int)%s<s):=by
 unfold rIx cIx
 have:s=2\/s=3\/s=4:=by omega
 rcases this with rfl|rfl|rfl<;>omega
end Go.Proofs.YtkeoflnmbcdmfaaGreatDoor
