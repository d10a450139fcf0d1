/- Package probe: what Find and Path hand to descend; Find and Path. -/
import Derived.Deep.AppendLies
import Derived.Maps.AppendAt
import Derived.Test.YtcboobmfnmgldaaGreatBPZd
set_option linter.unusedVariables false
namespace Go.Proofs.YtcboobmfnmgldaaGreat
open Go.RowKit
def qc (w:World) (b:Nat) (v:Value) (t:TypeId):Prop:=w.heap[b]?=some (.cells #[v] t (0,0))
variable {w:World} {b:Nat} {v:Value} {t:TypeId}
theorem qc.lt (h:qc w b v t):b<w.heap.size:=(Array.getElem?_eq_some_iff.1 h).1
theorem qc.cell (h:qc w b v t):w.cell? ⟨b,0,none⟩=some v:=mW h rfl
theorem qc.fz (h:qc w b v t):w.frozen? ⟨b,0,none⟩=false:=Bm h
def Bo (l:List iC):Int:=match l.getLast? with | none=>0 | some v=>v.rk
theorem Tx (l:List iC) (v:iC):Bo (l++[v])=v.rk:=by simp [Bo]
structure Iq (br bt:Nat) (w:World) (X:Nat->Prop) (l:List iC) (st:Bool):Prop where
 r:qc w br (AI (Bo l)) 3
 t:qc w bt (.bool st) 4
 x:∀ q,X q↔q=br\/q=bt
variable {L:List (List Sg)}
theorem adz {eps q:Int} {f:Nat->Int} {n:Nat} (R:mA eps f n L):Bo (D6 eps q f n L)=(aA f q n:Nat)/\oy q f n L 0=decide (aA f q n<n/\f (aA f q n)=q):=by
 by_cases e:L.length=0
 ·have n0:=R.z.1 e
  have l0:L=[]:=List.eq_nil_of_length_eq_zero e;subst l0;subst n0;exact ⟨rfl,by simp [oy]⟩
 ·constructor
  ·rw [<-adu,Tv eps q f n L (show 0<L.length by omega),Tx]
   rfl
  ·unfold oy
   rw [if_neg (by omega)]
   rfl
theorem adA {lo:Option Addr} (h:VS w lo L):∀ i,i<L.length->∀ j,j<(L.getD i []).length->((L.getD i []).getD j aK).ok:=fun i hi j hj=>by
 obtain ⟨b,off,_,_,hc⟩:=h.cells (by omega)
 obtain ⟨bo,c,_,_,_,g⟩:=hc i hi;exact g.ok j hj
def Ty (w:World) (W:World) (S:Nat->Prop) (A B:List (Int×Int)):Prop:=Gw w W/\∀ q,¬ S q
theorem adB {p:Nat} {S:Nat->Prop} {eps:Int} {f:Nat->Int} {n:Nat} (h:eQ w p S eps f n L):qa 104 236 237 238 (BY p) w (Ty w) eps f n L where
 gw x:=x.1
 ge x q hq:=(x.2 q hq).elim
 lt x q hq:=(x.2 q hq).elim
 keep x g _:=⟨g,x.2⟩
 sok:=by
  obtain ⟨ko,kc,lo,lc,_,_,hv⟩:=h.opened;exact adA hv
 eps x:=Nc (h.keep fun q hq=>x.1.below.block q (h.lt q hq))
 height x:=aaw (h.keep fun q hq=>x.1.below.block q (h.lt q hq))
 key {w1 S1 A B} x la a sl ha hs:=by
  have n1:=h.n1;have s1:=h.sh;have sl1:(sl:Int)<9223372036854775808:=by
   have:bL n L a<=2000000:=by
    unfold bL;by_cases z:a=0
    ·rw [if_pos z];exact n1
    ·rw [if_neg z];exact s1.2 _ (by omega)
   omega
  have e:qT f n L (a:Int) (sl:Int)=bF f L a sl:=by
   unfold qT;rw [if_pos ⟨⟨by omega,by omega⟩,by omega,by simpa using hs⟩]
   simp
  refine (aay (h.keep fun q hq=>x.1.below.block q (h.lt q hq)) (a:Int) (sl:Int) (by omega) (by have:=s1.1;omega) (by omega) sl1).mono ?_
  rintro ex w2 ⟨rfl,g2⟩;rw [e];exact ⟨⟨S1,rfl,⟨x.1.trans g2,x.2⟩,fun q hq=>.inl hq⟩,g2.gs _⟩
 seg {w1 S1 A B} x lb a sl ha hs:=by
  have s1:=h.sh;have:=s1.2 a ha;have e:kD L ((a:Int)+1) (sl:Int)=(L.getD a []).getD sl aK:=by
   unfold kD;rw [show ((a:Int)+1).toNat-1=a by omega,if_pos ⟨⟨by omega,by omega⟩,by omega,by omega⟩]
   simp
  refine (Nf (h.keep fun q hq=>x.1.below.block q (h.lt q hq)) ((a:Int)+1) (sl:Int) (by omega) (by have:=s1.1;omega) (by omega) (by omega)).mono ?_
  rintro ex w2 ⟨rfl,g2⟩;rw [e];exact ⟨⟨S1,rfl,⟨x.1.trans g2,x.2⟩,fun q hq=>.inl hq⟩,g2.gs _⟩
end Go.Proofs.YtcboobmfnmgldaaGreat
