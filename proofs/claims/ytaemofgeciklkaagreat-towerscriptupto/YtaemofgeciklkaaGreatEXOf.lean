import Derived.Test.YtaemofgeciklkaaGreatER4Add
import Derived.Test.YtaemofgeciklkaaGreatEXBase
set_option linter.unusedVariables false
set_option maxHeartbeats 4000000
set_option maxRecDepth 100000
open Go.Proofs.Tryz
namespace Go.Proofs.YtaemofgeciklkaaGreat
open Go.RowKit
theorem aY.some {e:Int} {f:Nat->Int} {n m:Nat} (h:aY e f (aC n)) (hm:m<=n):aY e f (aC m):=fun i j i' j' s s'=>h i j i' j' ⟨s.1,by have:=s.2;omega⟩ ⟨s'.1,by have:=s'.2;omega⟩
def cutAt (f:Nat->Int) (i j:Nat):Int:=if j<i then f j else 0
theorem Ae {f:Nat->Int} {i j:Nat} (h:j<i):cutAt f i j=f j:=Ym h
theorem XF (f:Nat->Int) (i:Nat) (x:Int) (hx:f i=x):∀ j,j<i+1->aG (cutAt f i) i x j=cutAt f (i+1) j:=by
 intro j hj;rw [Ae hj];by_cases e:j=i
 ·subst e;rw [eF,hx]
 ·rw [bJ ω,Ae ω]
theorem ag7 {HF:World->Nat->(Nat->Prop)->Int->Nat->(Nat->Int)->Prop} (H:pH HF) {p:Nat} {S:Nat->Prop} {e:Int} (ao:Option Addr) (n cp:Nat) (f:Nat->Int) (w0 w:World) (h:HF w p S e 0 (fun _=>0)) (hS:∀ q,S q->w0.heap.size<=q) (g0:Gw w0 w) (hK:KS w0 ao n f) (u:Up f n) (hn:n<=2000000) :
  Calls prog 192 #[IS p,.slice ao n cp] w fun ex w'=>(∃ ok:Bool,ex=χ (.bool ok)/\(ok=true↔aY e f (aC n))/\(ok=true->∃ S',HF w' p S' e n f))/\Gw w0 w':=by
 have HH:ag _:=H;have HK:ag _:=hK;have UP:ag (Up f n):=u;have F0:ag (HF w p S e 0 (cutAt f 0)):=H.ext h (fun i hi=>absurd hi ω)
 have S0:ag _:=hS;have G0:ag _:=g0;clear H hK u h hS g0;go_enter func192,ntmps192;go_wp2_with fail;go_loopg [11] n (fun gg s8 wr=>∃ (i:Nat) (S:Nat->Prop),s8=By i/\i<=n/\n-i<=gg/\ag (HF wr p S e i (cutAt f i))/\ag (∀ q,S q->w0.heap.size<=q)/\ag (Gw w0 wr))
 case atStart=>exact ⟨0,_,rfl,Γ _,ω,F0,S0,G0⟩
 case round =>
  clear F0 S0 G0;obtain ⟨i,S,rfl,h1,h2,F,SN,G⟩:=hrel;by_cases ar:i<n
  ·obtain ⟨bk,off,rfl,gR,hc⟩:=(HK.o.gw G.o).cells ω
   have q1:=hc i ar;obtain ⟨y0,y1⟩:=HK.o.bd i ar;obtain ⟨fi,fB⟩:=qbr (f i);have FI:ag _:=fB;rw [fB] at q1 y0 y1;clear hc fB;go_wp2_with fail;refine (HH.o.add F.o fi y0 y1 ω).mono ?_;rintro ex w3 ⟨⟨ok,err,S',rfl,hA,hF,gU⟩,g3⟩;have G3:ag _:=Gs.gw G.o g3 SN.o;have Hb:ag (∀ q,S' q->w0.heap.size<=q):=fun q hq=>by
    rcases gU q hq with r | r
    ·exact SN.o q r
    ·have:=G.o.size;omega
   have HF3:ag _:=hF;have HC:ag (ok=true↔aY e f (aC (i+1))):=by
    have UF:∀ j,j<i+1->aG (cutAt f i) i fi j=f j:=fun j hj=>by rw [XF f i fi FI.o j hj,Ae hj]
    rcases hA with ⟨q1,q2,_⟩ | ⟨_,_,q3⟩
    ·exfalso
     rw [Ae ω] at q2;have:=UP.o.lt (a:=i-1) (b:=i) ω ar;have:=FI.o;omega
    ·refine q3.trans ⟨fun q=>q.congr (fun _ _ s=>s) (fun a b s=>?_),fun q=>q.congr (fun _ _ s=>s) (fun a b s=>?_)⟩
     all_goals rw [UF b (by have:=s.2;omega),UF a (by have:=s.1;have:=s.2;omega)]
   clear hA hF gU g3 F G SN q1;cases ok with
   | false =>
    have R:ag (false=true↔aY e f (aC n)):=⟨fun q=>by simp at q,fun q=>HC.o.2 (q.some ω)⟩
    go_wp2_with fail;go_ret
    exact ⟨⟨false,rfl,R.o,fun q=>by simp at q⟩,G3.o⟩
   | true =>
    have He:ag (HF w3 p S' e (i+1) (cutAt f (i+1))):=by
     have:=HF3.o
     rw [Ym rfl,Ym rfl] at this;exact HH.o.ext this (XF f i fi FI.o)
    have FW:ag _:=HC.o.1 rfl;go_wp2_with fail;go_roundg (n-(i+1))
    case measure=>omega
    case rel=>exact ⟨i+1,S',by go_num,ω,Yk _,He,Hb,G3⟩
  ·have ei:i=n:=(by omega);subst ei;have FF:ag _:=HH.o.ext F.o (fun j hj=>Ae hj)
   have FW:=(HH.o.facts FF.o).2.2.1;have FA:ag _:=FW;clear FW;go_wp2_with fail;go_ret;exact ⟨⟨true,rfl,⟨fun _=>FA.o,fun _=>rfl⟩,fun _=>⟨S,FF.o⟩⟩,G.o⟩
theorem ag8 (CC:Fm) {HF:World->Nat->(Nat->Prop)->Int->Nat->(Nat->Int)->Prop} (H:pH HF) (eps:Int) (ao:Option Addr) (n cp:Nat) (f:Nat->Int) (p0:-9223372036854775808<=eps) (p1:eps<9223372036854775808) (hn:n<=2000000) (w:World) (h:KS w ao n f) :
  Calls prog 176 #[.slice ao n cp,By eps] w fun ex w'=>Px ex eps f n/\Gw w w':=by
 have HK:ag _:=h;have HH:ag _:=H;clear h H;have G0:ag (Gw w (w.alloc (.cells #[BY 0,BY 0,By 0] 212))):=(Gw.refl w).alloc _ _;have Z0:ag (Ln (w.alloc (.cells #[BY 0,BY 0,By 0] 212)) w.heap.size 0 0 0):=Ω w _;by_cases k0:¬ (2<=eps/\eps<=64)
 ·have R:ag (eG eps f n 0 0 0 1):=.inl ⟨k0,rfl,rfl,rfl,rfl⟩
  have pJ:ag _:=fun W=>HH.o.bad eps k0 W
  clear k0;go_enter func176,ntmps176;go_wp2_with fail;refine (pJ.o _).mono ?_;rintro ex w1 ⟨rfl,g1⟩;have G1:ag _:=G0.o.trans g1;have Z1:ag (Ln w1 w.heap.size 0 0 0):=Z0.o.gw g1;have z0:=Z1.o.c0;have z1:=Z1.o.c1;have z2:=Z1.o.c2;have z3:=Z1.o.fz 0;have z4:=Z1.o.fz 1;have z5:=Z1.o.fz 2;have z6:=Z1.o.lt;clear g1;go_wp2_with fail;refine bodyPost_ret (v:=.tuple #[.agg #[BY 0,BY 0,By 0],By 1]) (by simp [results,results176,go_sem, *]) rfl ⟨⟨0,0,0,1,rfl,R.o,ω,ω,ω⟩,?_⟩
  refine Gw.setCell (Gw.setCell (Gw.setCell G1.o ?_ _) ?_ _) ?_ _<;>exact Yk _
 ·have KE:ag (2<=eps/\eps<=64):=Classical.not_not.1 k0
  have k2:=KE.o.1;have k3:=KE.o.2;clear k0;have mw:ag _:=fun W=>HH.o.new eps k2 k3 W
  go_enter func176,ntmps176;go_wp2_with fail;generalize w.alloc (.cells #[BY 0,BY 0,By 0] 212)=w1 at G0 Z0 ⊢;refine (mw.o _).mono ?_;rintro ex w2 ⟨⟨p,S,rfl,hS,hF⟩,g2⟩;have F2:ag _:=hF;have S2:ag _:=hS;have G2:ag _:=g2;clear hF hS g2 mw;obtain ⟨N,hN⟩:=qbr w.heap.size;have NW:ag (w.heap.size<=N):=by show _<=_;omega
  rw [hN] at Z0 ⊢;clear hN;have K1:ag _:=HK.o.gw G0.o;have K2:ag _:=K1.o.gw G2.o;go_wp2_with fail;refine (ag6 ao n cp f ω _ K2.o).mono ?_;rintro ex w3 ⟨⟨r,rfl,hr⟩,g3⟩;have HR:ag _:=hr;have G3:ag _:=G2.o.trans g3;have F3:ag _:=HH.o.gw F2.o g3;clear hr g3 F2 G2 K2;cases r with
  | false =>
   have R:ag (eG eps f n 0 0 0 50):=.inr (.inl ⟨KE.o,fun q=>by have:=HR.o.2 q;simp at this,rfl,rfl,rfl,rfl⟩)
   have Z1:ag (Ln w3 N 0 0 0):=Z0.o.gw G3.o;have z0:=Z1.o.c0;have z1:=Z1.o.c1;have z2:=Z1.o.c2;have z3:=Z1.o.fz 0;have z4:=Z1.o.fz 1;have z5:=Z1.o.fz 2;have z6:=Z1.o.lt;go_wp2_with fail;refine bodyPost_ret (v:=.tuple #[.agg #[BY 0,BY 0,By 0],By 50]) (by simp [results,results176,go_sem, *]) rfl ⟨⟨0,0,0,50,rfl,R.o,ω,ω,ω⟩,?_⟩
   refine Gw.setCell (Gw.setCell (Gw.setCell (G0.o.trans G3.o) ?_ _) ?_ _) ?_ _<;>exact NW.o
  | true =>
   have UP:ag _:=HR.o.1 rfl;have n0:=UP.o.1;clear HR;go_wp2_with fail;refine (ag7 HH.o ao n cp f w1 w3 F3.o S2.o G3.o K1.o UP.o.2 hn).mono ?_;rintro ex w4 ⟨⟨ok,rfl,fD,hF⟩,g4⟩;have OK:ag _:=fD;have F4:ag _:=hF;have G4:ag _:=g4;clear fD hF g4 F3 G3 S2;cases ok with
   | false =>
    have R:ag (eG eps f n 0 0 0 51):=.inr (.inr (.inl ⟨KE.o,UP.o,fun q=>by have:=OK.o.2 q;simp at this,rfl,rfl,rfl,rfl⟩))
    have Z1:ag (Ln w4 N 0 0 0):=Z0.o.gw G4.o;have z0:=Z1.o.c0;have z1:=Z1.o.c1;have z2:=Z1.o.c2;have z3:=Z1.o.fz 0;have z4:=Z1.o.fz 1;have z5:=Z1.o.fz 2;have z6:=Z1.o.lt;go_wp2_with fail;refine bodyPost_ret (v:=.tuple #[.agg #[BY 0,BY 0,By 0],By 51]) (by simp [results,results176,go_sem, *]) rfl ⟨⟨0,0,0,51,rfl,R.o,ω,ω,ω⟩,?_⟩
    refine Gw.setCell (Gw.setCell (Gw.setCell (G0.o.trans G4.o) ?_ _) ?_ _) ?_ _<;>exact NW.o
   | true =>
    have FO:ag _:=OK.o.1 rfl;have LE:ag _:=F4.o rfl;clear OK F4;go_wp2_with fail;refine (HH.o.least LE.o.choose_spec ω).mono ?_;rintro ex w5 ⟨⟨a,b,rfl,AU,ha,hb⟩,g5⟩;have G5:ag _:=G4.o.trans g5;have LO:ag _:=AU;have a0:=LO.o.a0;have b1:=LO.o.b1;have Z5:ag (Ln w5 N 0 0 0):=Z0.o.gw G5.o;clear g5 AU G4 LE Z0;have we:IntKind.i64.wrap (eps-1)=eps-1:=(by rw [Δ];omega);go_wp2_with fail;have ML:ag (Ln ((w5.alloc (.cells #[BY a,BY b] 227)).alloc (.cells #[BY a,BY b,By 0] 212)) (w5.heap.size+1) a b 0):=by
     have:=Ω (w5.alloc (.cells #[BY a,BY b] 227)) (.cells #[BY a,BY b,By 0] 212)
     show Ln _ _ _ _ _;simpa [Ln] using this
    have MG:ag (Gw w5 ((w5.alloc (.cells #[BY a,BY b] 227)).alloc (.cells #[BY a,BY b,By 0] 212))):=((Gw.refl w5).alloc _ _).alloc _ _;generalize (w5.alloc (.cells #[BY a,BY b] 227)).alloc (.cells #[BY a,BY b,By 0] 212)=w6 at ML MG ⊢;have Z6:ag (Ln w6 N 0 0 0):=Z5.o.gw MG.o;have G6:ag _:=(G0.o.trans G5.o).trans MG.o;have NL:ag (N<w5.heap.size+1):=(by have:=Z5.o.lt;exact Nat.lt_succ_of_lt this);obtain ⟨L,hL⟩:=qbr (w5.heap.size+1);rw [hL] at ML NL ⊢
    (try rw [show w5.heap.size=L-1 by omega])
    clear hL MG Z5 G5;obtain ⟨bk,off,rfl,gR,hc⟩:=(HK.o.gw G6.o).cells n0;have BB:ag (Calls prog 194 #[.agg #[BY a,BY b,By 0],ψ bk off n cp,By (eps-1)] w6 fun ex w'=>(∃ z:Int,ex=χ (By z)/\oa (eps-1) f n a b z/\(-100<=z/\z<=4000000))/\Gw w6 w'):=by
     refine ag5 CC a b 0 (eps-1) bk off n cp f a0 ha ω hb ω ω n0 ω w6 gR hc (fun i hi=>?_) (fun i hi q=>?_)
     ·have h1:=UP.o.2.le (Γ i) hi
      have h2:=HK.o.bd i hi;have h3:=HK.o.bd 0 n0;omega
     ·have:=xB ω UP.o.2 LO.o FO.o hi
      rcases q with q | q<;>omega
    clear hc gR;have e0:=ML.o.c0;have e1:=ML.o.c1;have e2:=ML.o.c2;have e6:=ML.o.lt;go_wp2_with fail;refine BB.o.mono ?_;rintro ex w7 ⟨⟨z,rfl,hB,zb⟩,g7⟩;have R:ag (eG eps f n a b z 0):=.inr (.inr (.inr ⟨KE.o,UP.o,FO.o,LO.o,hB,rfl⟩));have G7:ag _:=G6.o.trans g7;have M7:ag (Ln w7 L a b 0):=ML.o.gw g7;have Z7:ag (Ln w7 N 0 0 0):=Z6.o.gw g7;have y0:=M7.o.c0;have y1:=M7.o.c1;have y2:=M7.o.c2;have y3:=M7.o.fz 2;have y4:=M7.o.lt;have z0:=Z7.o.c0;have z1:=Z7.o.c1;have z2:=Z7.o.c2;have z3:=Z7.o.fz 0;have z4:=Z7.o.fz 1;have z5:=Z7.o.fz 2;have z6:=Z7.o.lt;have nl:¬ N=L:=(by have:=NL.o;omega);have ln:¬ L=N:=ω;clear g7 hB e0 e1 e2 e6 ML Z6 G6 BB M7 Z7;go_wp2_with fail;refine bodyPost_ret (v:=.tuple #[.agg #[BY a,BY b,By z],By 0]) (by simp [results,results176,go_sem, *]) rfl ⟨⟨a,b,z,0,rfl,R.o,⟨a0,ha⟩,⟨ω,hb⟩,ω⟩,?_⟩
    refine Gw.setCell (Gw.setCell (Gw.setCell (Gw.setCell G7.o ?_ _) ?_ _) ?_ _) ?_ _
    ·have:=NL.o;have:=NW.o;show _<=L;omega
    all_goals exact NW.o
