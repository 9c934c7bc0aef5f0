import Derived.Test.YtlnmioijgclndaaGreatDoorAPushR
import Derived.Laws.Append
set_option maxRecDepth 8000
namespace Go.Proofs.YtlnmioijgclndaaGreatDoor
open Go.ChangeShapes Go.WideShapes Go.ChangeAt Go.RowKit
theorem below_none {w w':World} (h:w.grownBy w' none):Below w.heap.size w w':=⟨h.os,h.tape,h.output,h.size,fun k hk=>h.block k hk (by simp)⟩
theorem fresh_same {e t:TypeId} (ty:TypeId) {i0:TypeInfo} {z:Value} (ht:Tryz.prog.underlying t=some (.slice e)) (hi:Tryz.prog.info? e=some i0) (hz:i0.zero=some z) {w:World} (b:Nat) (ad:Addr) (m c2:Nat) (news:List Value) (hl:news.length=m*i0.size) (hnews:∀ j u,news[j]? =some u->w.cell? (ad.add j)=some u)
 (hm:0<m) (h63:(m:Int)<=9223372036854775807) (hfit:m*i0.bytes<=281474976710656):
 (Builtin.append_ #[t,t] ty #[.slice (some ⟨b,0,none⟩) 0 0,.slice (some ad) m c2]).run Tryz.prog w=(Builtin.append_ #[t,t] ty #[.slice none 0 0,.slice (some ad) m c2]).run Tryz.prog w:=by
 rw [run_append_grow w t ty e i0 z ht hi hz ⟨b,0,none⟩ 0 0 [] (by simp) (by simp) ad m c2 news hl hnews (by omega) (by simpa using h63) (by rw [Nat.zero_add,nextslicecap_zero hm];exact hfit)];rw [run_append_nil w t ty e i0 z ht hi hz ad m c2 news hl hnews (by omega) h63 hfit]
 simp
theorem fresh_ints {w:World} (ty:TypeId) (b:Nat) (A2:Option Addr) (m c2 B:Nat) (ys:List Int) (hr:Rd w B A2 m ys) (h0:0<m) (hm:m<=1099511627776):
 ∃ A' c' w',(Builtin.append_ #[23,23] ty #[.slice (some ⟨b,0,none⟩) 0 0,.slice A2 m c2]).run Tryz.prog w=.ok (.slice A' m c') w'/\Ow w' w.heap.size A' m c' ys/\Below w.heap.size w w':=by
 obtain ⟨i0,hi,hz0,hz1,hz2⟩:=info_parts int_info;obtain ⟨A',c',w',hrun,h1,h2,_⟩:=run_push_all ty w.heap.size none 0 0 [] A2 m c2 B ys (Ow.nil_ _ _) hr (.inr rfl) (by omega) hm (Nat.le_refl _);obtain ⟨b2,off,rfl,_,_⟩:=hr.at_ h0;rw [Nat.zero_add] at hrun h1;rw [List.nil_append] at h1;exact ⟨A',c',w',(fresh_same ty Tryz.underlying23 hi hz0 b _ m c2 (vals ys) (by rw [vals_length,hr.1,hz1];omega) hr.news h0 (by omega) (by rw [hz2];omega)).trans hrun,h1,below_none h2⟩
theorem fresh_rulesV {w:World} (ty:TypeId) (b:Nat) (A2:Option Addr) (m c2 lo lo2:Nat) (rs2:List RuleM) (vs2:List Value) (hl2:rs2.length=m) (hown2:w.ownsRow lo2 84 3 (.slice A2 m c2) m vs2) (hin2:InR w lo (.slice none 0 0) rs2 vs2 m)
 (hlit:w.heap[b]? =some (.cells #[] 84)) (hb:lo<=b) (hm:m<=1099511627776) (hlo:lo<=w.heap.size):
 ∃ A' c' w',(Builtin.append_ #[24,24] ty #[.slice (some ⟨b,0,none⟩) 0 0,.slice A2 m c2]).run Tryz.prog w=.ok (.slice A' m c') w'/\(w'.ownsRow lo 84 3 (.slice A' m c') m vs2/\InR w' lo (.slice A' m c') rs2 vs2 m)/\Below w.heap.size w w':=by
 obtain ⟨i0,hi,hz0,hz1,hz2⟩:=info_parts rule_parts
 by_cases h0:0<m
 ·obtain ⟨A',c',w',hrun,h1,h2,_⟩:=run_push_rulesV ty lo none 0 0 [] [] A2 m c2 rs2 vs2 lo2 rfl (World.ownsRow_nil _ _ _ _) (fun i hi=>absurd hi (by omega)) hown2 hin2 (.inl h0) (by omega) hm hlo;obtain ⟨hvl2,hcase⟩:=id hown2
  rcases hcase with ⟨_,h00⟩|⟨g2,cap2,cur,hv,_,hrow,q1,q2,q3,q4⟩
  ·omega
  ·injection hv with e1 _ e2
   subst e1
   have hcell:∀ j u,vs2[j]? =some u->w.cell? ((⟨g2,0,none⟩:Addr).add j)=some u:=fun j u hj=>by
    have hadd:(⟨g2,0,none⟩:Addr).add j=⟨g2,j,none⟩:=(by unfold Addr.add;split<;>simp_all);rw [hadd,cell_of_row w g2 j cur _ _ hrow];rw [<- q4,List.getElem?_take] at hj
    split at hj
    ·simpa using hj
    ·cases hj
   rw [Nat.zero_add] at hrun h1;rw [List.nil_append,List.nil_append] at h1;exact ⟨A',c',w',(fresh_same ty Tryz.underlying24 hi hz0 b _ m c2 vs2 (by rw [hvl2,hz1]) hcell h0 (by omega) (by rw [hz2];omega)).trans hrun,h1,below_none h2⟩
 ·obtain rfl:m=0:=by omega
  have hsrc:Go.Src Tryz.prog i0.size 24 (.slice A2 0 c2) 0 [] w:=by
   cases A2 with
   |none=>exact Go.Src.ofNil w Tryz.underlying24 c2
   |some a=>exact Go.Src.ofSlice w Tryz.underlying24 a 0 c2 [] (by simp) (fun j u hj=>by simp at hj) (fun u hu=>by simp at hu)
  refine ⟨some ⟨b,0,none⟩,0,w,run_append_nothing w 24 24 ty 84 i0 Tryz.underlying24 hi (some ⟨b,0,none⟩) 0 0 (Nat.zero_le _) _ hsrc,⟨by rw [show vs2=[] from List.eq_nil_of_length_eq_zero (by rw [hown2.1,Nat.zero_mul])];exact ⟨by simp,.inr ⟨b,0,#[],rfl,hb,hlit,Nat.le_refl _,by simp [maxLen],by simp,by simp⟩⟩,fun i hi=>absurd hi (by omega)⟩,Below.refl _ _⟩
theorem fresh_rules {w:World} (ty:TypeId) (b:Nat) (A2:Option Addr) (m c2 lo lo2:Nat) (rs2:List RuleM) (vs2:List Value) (hl2:rs2.length=m) (hown2:w.ownsRow lo2 84 3 (.slice A2 m c2) m vs2) (hin2:InR w lo (.slice none 0 0) rs2 vs2 m)
 (hlit:w.heap[b]? =some (.cells #[] 84)) (hb:lo<=b) (hm:m<=1099511627776) (hlo:lo<=w.heap.size):
 ∃ A' c' w',(Builtin.append_ #[24,24] ty #[.slice (some ⟨b,0,none⟩) 0 0,.slice A2 m c2]).run Tryz.prog w=.ok (.slice A' m c') w'/\OwR w' lo (.slice A' m c') rs2 m/\Below w.heap.size w w':=by
 obtain ⟨A',c',w',hrun,⟨k1,k2⟩,k3⟩:=fresh_rulesV ty b A2 m c2 lo lo2 rs2 vs2 hl2 hown2 hin2 hlit hb hm hlo;exact ⟨A',c',w',hrun,⟨_,k1,k2⟩,k3⟩
end Go.Proofs.YtlnmioijgclndaaGreatDoor
