/- Package probe: what Find and Path hand to descend; Find and Path. -/
import Derived.Deep.AppendLies
import Derived.Maps.AppendAt
import Derived.Test.YtemijdhemdhclaaGreatNPZd
set_option linter.unusedVariables false
namespace Go.Proofs.YtemijdhemdhclaaGreat
open Go.RowKit
def Bx9 (w:World) (b:Nat) (v:Value) (t:TypeId):Prop:=w.heap[b]?=some (.cells #[v] t (0,0))
theorem Bx9.lt {w:World} {b:Nat} {v:Value} {t:TypeId} (h:Bx9 w b v t):b<w.heap.size:=(Array.getElem?_eq_some_iff.1 h).1
theorem Bx9.cell {w:World} {b:Nat} {v:Value} {t:TypeId} (h:Bx9 w b v t):w.cell? ⟨b,0,none⟩=some v:=cell_blk9 h rfl
theorem Bx9.fz {w:World} {b:Nat} {v:Value} {t:TypeId} (h:Bx9 w b v t):w.frozen? ⟨b,0,none⟩=false:=fz_blk9 h
def lastR (l:List Vis):Int:=match l.getLast? with | none=>0 | some v=>v.rk
theorem lastR_snoc (l:List Vis) (v:Vis):lastR (l++[v])=v.rk:=by simp [lastR]
structure FTz (br bt:Nat) (w:World) (X:Nat->Prop) (l:List Vis) (st:Bool):Prop where
 r:Bx9 w br (.int .i64 (lastR l)) 3
 t:Bx9 w bt (.bool st) 4
 x:∀ q,X q↔q=br\/q=bt
theorem found_end {eps q:Int} {f:Nat->Int} {n:Nat} {L:List (List Sg)} (R:Ready eps f n L):lastR (pathL eps q f n L)=(cntb f q n:Nat)/\standTo q f n L 0=decide (cntb f q n<n/\f (cntb f q n)=q):=by
 by_cases e:L.length=0
 ·have n0:=R.z.1 e
  have l0:L=[]:=List.eq_nil_of_length_eq_zero e;subst l0;subst n0;exact ⟨rfl,by simp [standTo]⟩
 ·constructor
  ·rw [<-pathTo_zero,pathTo_next eps q f n L (show 0<L.length by omega),lastR_snoc]
   rfl
  ·unfold standTo
   rw [if_neg (by omega)]
   rfl
theorem vs_ok {w:World} {lo:Option Addr} {L:List (List Sg)} (h:VS w lo L):∀ i,i<L.length->∀ j,j<(L.getD i []).length->((L.getD i []).getD j sg0).ok:=fun i hi j hj=>by
 obtain ⟨b,off,_,_,hc⟩:=h.cells (by omega)
 obtain ⟨bo,c,_,_,_,g⟩:=hc i hi;exact g.ok j hj
def PS9 (w:World) (W:World) (S:Nat->Prop) (A B:List (Int×Int)):Prop:=Gw w W/\∀ q,¬ S q
theorem dsc_pile {w:World} {p:Nat} {S:Nat->Prop} {eps:Int} {f:Nat->Int} {n:Nat} {L:List (List Sg)} (h:HPile w p S eps f n L):DSC 76 206 207 208 (.pointer (some ⟨p,0,none⟩)) w (PS9 w) eps f n L where
 gw x:=x.1
 ge x q hq:=(x.2 q hq).elim
 lt x q hq:=(x.2 q hq).elim
 keep x g _:=⟨g,x.2⟩
 sok:=by
  obtain ⟨ko,kc,lo,lc,_,_,hv⟩:=h.opened;exact vs_ok hv
 eps x:=pl_eps (h.keep fun q hq=>x.1.below.block q (h.lt q hq))
 height x:=pl_height (h.keep fun q hq=>x.1.below.block q (h.lt q hq))
 key {w1 S1 A B} x la a sl ha hs:=by
  have n1:=h.n1;have s1:=h.sh;have sl1:(sl:Int)<9223372036854775808:=by
   have:rowN n L a<=2000000:=by
    unfold rowN;by_cases z:a=0
    ·rw [if_pos z];exact n1
    ·rw [if_neg z];exact s1.2 _ (by omega)
   omega
  have e:keyV f n L (a:Int) (sl:Int)=rowF f L a sl:=by
   unfold keyV;rw [if_pos ⟨⟨by omega,by omega⟩,by omega,by simpa using hs⟩]
   simp
  refine (pl_key (h.keep fun q hq=>x.1.below.block q (h.lt q hq)) (a:Int) (sl:Int) (by omega) (by have:=s1.1;omega) (by omega) sl1).mono ?_
  rintro ex w2 ⟨rfl,g2⟩;rw [e];exact ⟨⟨S1,rfl,⟨x.1.trans g2,x.2⟩,fun q hq=>.inl hq⟩,g2.gs _⟩
 seg {w1 S1 A B} x lb a sl ha hs:=by
  have s1:=h.sh;have:=s1.2 a ha;have e:segW L ((a:Int)+1) (sl:Int)=(L.getD a []).getD sl sg0:=by
   unfold segW;rw [show ((a:Int)+1).toNat-1=a by omega,if_pos ⟨⟨by omega,by omega⟩,by omega,by omega⟩]
   simp
  refine (pl_seg (h.keep fun q hq=>x.1.below.block q (h.lt q hq)) ((a:Int)+1) (sl:Int) (by omega) (by have:=s1.1;omega) (by omega) (by omega)).mono ?_
  rintro ex w2 ⟨rfl,g2⟩;rw [e];exact ⟨⟨S1,rfl,⟨x.1.trans g2,x.2⟩,fun q hq=>.inl hq⟩,g2.gs _⟩
end Go.Proofs.YtemijdhemdhclaaGreat
