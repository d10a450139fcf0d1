import Derived.Deep.AppendLies
import Derived.Test.YtaemofgeciklkaaGreatEPZd
set_option linter.unusedVariables false
namespace Go.Proofs.YtaemofgeciklkaaGreat
open Go.RowKit
def sB (w:World) (b:Nat) (v:Value) (t:TypeId):Prop:=w.heap[b]?=some (.cells #[v] t (0,0))
variable {w:World} {b:Nat} {v:Value} {t:TypeId}
theorem sB.lt (h:sB w b v t):b<w.heap.size:=(qab.1 h).1
theorem sB.cell (h:sB w b v t):w.cell? (φ b 0)=some v:=oZ h rfl
theorem sB.fz (h:sB w b v t):w.frozen? (φ b 0)=false:=DT h
def DU (l:List iY):Int:=match l.getLast? with | none=>0 | some v=>v.rk
theorem We (l:List iY) (v:iY):DU (l++[v])=v.rk:=by simp [DU]
structure Kq (br bt:Nat) (w:World) (X:Nat->Prop) (l:List iY) (st:Bool):Prop where
 r:sB w br (By (DU l)) 3
 t:sB w bt (.bool st) 4
 x:∀ q,X q↔q=br\/q=bt
variable {L:List (List Sg)}
theorem afL {eps q:Int} {f:Nat->Int} {n:Nat} (R:oz eps f n L):DU (Hh eps q f n L)=(aB f q n:Nat)/\qu q f n L 0=decide (aB f q n<n/\f (aB f q n)=q):=by
 by_cases e:L.length=0
 ·have n0:=R.z.1 e
  have l0:L=[]:=qbd e;subst l0;subst n0;exact ⟨rfl,by simp [qu]⟩
 ·constructor
  ·rw [<-afH,Wd eps q f n L (show 0<L.length by omega),We]
   rfl
  ·unfold qu
   rw [Yl ω];rfl
theorem Wf {lo:Option Addr} (h:VS w lo L):∀ i,i<L.length->∀ j,j<(L.getD i []).length->((L.getD i []).getD j aF).ok:=fun i hi j hj=>by obtain ⟨b,off,_,_,hc⟩:=h.cells ω;obtain ⟨bo,c,_,_,_,g⟩:=hc i hi;exact g.ok j hj
def Wg (w:World) (W:World) (S:Nat->Prop) (A B:List (Int×Int)):Prop:=Gw w W/\∀ q,¬ S q
theorem afM {p:Nat} {S:Nat->Prop} {eps:Int} {f:Nat->Int} {n:Nat} (h:fF w p S eps f n L):sw 62 97 269 118 (IS p) w (Wg w) eps f n L where
 gw x:=x.1
 ge x q hq:=(x.2 q hq).elim
 lt x q hq:=(x.2 q hq).elim
 keep x g _:=⟨g,x.2⟩
 sok:=by obtain ⟨ko,kc,lo,lc,_,_,hv⟩:=h.opened;exact Wf hv
 eps x:=Hi (h.keep fun q hq=>x.1.below.block q (h.lt q hq))
 height x:=PX (h.keep fun q hq=>x.1.below.block q (h.lt q hq))
 key {w1 S1 A B} x la a sl ha hs:=by
  have n1:=h.n1;have s1:=h.sh;have sl1:(sl:Int)<9223372036854775808:=by
   have:bK n L a<=2000000:=by
    unfold bK;by_cases z:a=0
    ·rw [Ym z];exact n1
    ·rw [Yl z];exact s1.2 _ ω
   omega
  have e:tz f n L (a:Int) (sl:Int)=bF f L a sl:=by
   unfold tz;rw [Ym ⟨⟨ω,ω⟩,ω,by simpa using hs⟩]
   simp
  refine (ab6 (h.keep fun q hq=>x.1.below.block q (h.lt q hq)) (a:Int) (sl:Int) ω (by have:=s1.1;omega) ω sl1).mono ?_
  rintro ex w2 ⟨rfl,g2⟩;rw [e];exact ⟨⟨S1,rfl,⟨x.1.trans g2,x.2⟩,fun q hq=>.inl hq⟩,g2.gs _⟩
 seg {w1 S1 A B} x lb a sl ha hs:=by
  have s1:=h.sh;have:=s1.2 a ha;have e:jX L ((a:Int)+1) (sl:Int)=(L.getD a []).getD sl aF:=by
   unfold jX;rw [show ((a:Int)+1).toNat-1=a by omega,Ym ⟨⟨ω,ω⟩,ω,ω⟩]
   simp
  refine (Hk (h.keep fun q hq=>x.1.below.block q (h.lt q hq)) ((a:Int)+1) (sl:Int) ω (by have:=s1.1;omega) ω ω).mono ?_
  rintro ex w2 ⟨rfl,g2⟩;rw [e];exact ⟨⟨S1,rfl,⟨x.1.trans g2,x.2⟩,fun q hq=>.inl hq⟩,g2.gs _⟩
