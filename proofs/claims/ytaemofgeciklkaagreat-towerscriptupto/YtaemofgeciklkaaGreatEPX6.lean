import Derived.Test.YtaemofgeciklkaaGreatEPFg
import Derived.Test.YtaemofgeciklkaaGreatER4Add
import Derived.Test.YtaemofgeciklkaaGreatEPN5
set_option linter.unusedVariables false
set_option maxHeartbeats 16000000
set_option maxRecDepth 100000
open Go.Proofs.Tryz
namespace Go.Proofs.YtaemofgeciklkaaGreat
open Go.RowKit
attribute [local go_sem] frozen?_alloc_cells fL
theorem Bx.drw5 {w:World} {b:Nat} {t:TypeId} {u v:Value} (h:Bx w b t u v):Bx w.drew b t u v:=h
theorem aik (a b c d:Int) (a0:0<=a) (a1:a<18446744073709551616) (b0:0<b) (b1:b<18446744073709551616) (d0:0<=d) (d1:d<18446744073709551616) (w:World) :
  Calls prog 165 #[.agg #[BY a,BY b,By c],BY d] w fun ex w'=>ex=π #[By (if 2305843009213693952<a*d/b then 0 else a*d/b),.bool (!decide (2305843009213693952<a*d/b))]/\Gw w w':=by
 have hb:(b == 0)=false:=by simp;omega
 have P:ag _:=aab a0 a1 b0 b1 d0 d1;have n':ag _:=P.o.sum b0;obtain ⟨Q,hQ⟩:=qbr (a*d/b);rw [hQ] at n' ⊢;obtain ⟨W,hW⟩:=qbr (a/b);obtain ⟨R,hR⟩:=qbr (a%b);rw [hW,hR] at P n';have W0:0<=W:=P.o.w0;have W1:W<18446744073709551616:=by rw [<-hW];exact Int.lt_of_le_of_lt (Int.ediv_le_self _ a0) a1
 have R0:0<=R:=P.o.r0;have R1:R<18446744073709551616:=by have:=P.o.r1;omega
 clear hQ;by_cases cut:0<W/\2305843009213693952/W<d
 ·obtain ⟨t1,t2⟩:=cut
  have dx:2305843009213693952<Q:=by have h1:=(Nv t1 d0).1 t2;have h2:=n'.o;have h3:=P.o.o0;have h4:=P.o.t0;split at h2<;>omega
  have bt:decide (2305843009213693952<Q)=true:=by simp;omega
  have oH:decide (0<W)=true:=by simp;omega
  have wz:(W == 0)=false:=by simp;omega
  have Jd:decide (2305843009213693952/W<d)=true:=by simpa using t2
  rw [Ym dx,bt];clear dx bt t2 n' P;go_enter func165,ntmps165;go_wp2_with fail;exact bodyPost_ret (v:=.tuple #[By 0,.bool false]) (by simp [results,results165,go_sem]) rfl ⟨rfl,(Gw.refl w).alloc _ _⟩
 ·have small:W*d<=2305843009213693952:=by
   by_cases z:0<W
   ·have:=mt (Nv z d0).2 (fun q=>cut ⟨z,q⟩)
    omega
   ·have:W=0:=by omega
    rw [this,Int.zero_mul];omega
  have tc:(decide (0<W)&&decide (2305843009213693952/W<d))=false:=by simpa using cut
  obtain ⟨M,hM⟩:=qbr (W*d);have M0:0<=M:=by rw [<-hM];exact qas W0 d0
  rw [hM] at small n';have ew:IntKind.u64.wrap M=M:=by rw [qao];omega
  have tt:(0<W/\decide (0<W)=true/\(W == 0)=false/\decide (2305843009213693952/W<d)=false)\/decide (0<W)=false:=by
   by_cases z:0<W
   ·have oH:decide (0<W)=true:=(by simp;omega);exact .inl ⟨z,oH,by simp;omega,by simpa [oH] using tc⟩
   ·exact .inr ζ
  clear cut tc;obtain ⟨V,hV⟩:∃ V,ag ((if 2305843009213693952<Q then 0 else Q)=V):=⟨_,(rfl:_=_)⟩
  obtain ⟨z,hz⟩:∃ z,ag ((!decide (2305843009213693952<Q))=z):=⟨_,(rfl:_=_)⟩;rw [hV.o,hz.o];have VB:ag (2305843009213693952<Q->V=0/\z=false):=fun k=>⟨by rw [<-hV.o,Ym k],by rw [<-hz.o];simp [k]⟩
  have VG:ag (Q<=2305843009213693952->V=Q/\z=true):=fun k=>⟨by rw [<-hV.o,Yl ω],by rw [<-hz.o];simp;omega⟩
  clear hV hz;have hH:∃ H,R/2=H:=⟨_,rfl⟩;obtain ⟨H,hH⟩:=hH;have hL:∃ L,R%2=L:=⟨_,rfl⟩;obtain ⟨L,hL⟩:=hL;have H0:0<=H/\H<9223372036854775808:=ω;have L0:0<=L/\L<2:=ω;rw [hH,hL] at P n';have hwh:IntKind.i64.wrap H=H:=by rw [Δ];omega
  have hwl:IntKind.i64.wrap L=L:=by rw [Δ];omega
  have aiD:bits BinOp.and IntKind.u64 R 1=L:=by rw [and_one_u64 R R0 ω];exact hL
  obtain ⟨X,hX⟩:=qbr (H*d);obtain ⟨Z,hZ⟩:=qbr (L*d);rw [hX,hZ] at P n';have X0:0<=X/\X+Z<170141183460469231731687303715884105728/\0<=Z:=by have h1:H*d+L*d<=9223372036854775808*d:=(by rw [<-Int.add_mul];exact qae ω d0);have h2:0<=H*d:=qas H0.1 d0;have h3:0<=L*d:=qas L0.1 d0;omega
  obtain ⟨o,ho⟩:=qbr (X/b);obtain ⟨A,hA⟩:=qbr (X%b);obtain ⟨t,ht⟩:=qbr ((X+Z)/b);obtain ⟨B,hB⟩:=qbr ((X+Z)%b);have T1:ag (∀ w:World,Calls prog 184 #[By H,BY d] w fun e w'=>e=χ (.agg #[By (ay (X)),BY (az (X))])/\Gb w w'):=fun w=>by
   have:=YP H d ω ω d0 d1 w
   rw [hX] at this;exact this
  have T2:ag (∀ w:World,Calls prog 184 #[By L,BY d] w fun e w'=>e=χ (.agg #[By (ay (Z)),BY (az (Z))])/\Gb w w'):=fun w=>by
   have:=YP L d ω ω d0 d1 w
   rw [hZ] at this;exact this
  have D1:ag (∀ w:World,Calls prog 183 #[.agg #[By (ay (X)),BY (az (X))],BY b] w fun e w'=>e=χ (.tuple #[.agg #[By (ay (o)),BY (az (o))],BY A,By 0])/\Gb w w'):=fun w=>by
   have:=YQ X b (by rw [oi X ω ω];omega) b0 b1 w
   rw [oi X ω ω,ho,hA] at this;exact this
  have D2:ag (∀ w:World,Calls prog 183 #[.agg #[By (ay (X+Z)),BY (az (X+Z))],BY b] w fun e w'=>e=χ (.tuple #[.agg #[By (ay (t)),BY (az (t))],BY B,By 0])/\Gb w w'):=fun w=>by
   have:=YQ (X+Z) b (by rw [oi (X+Z) ω ω];omega) b0 b1 w
   rw [oi (X+Z) ω ω,ht,hB] at this;exact this
  have AD:ag (∀ w:World,Calls prog 185 #[.agg #[By (ay (X)),BY (az (X))],.agg #[By (ay (Z)),BY (az (Z))]] w fun e w'=>e=χ (.agg #[By (ay (X+Z)),BY (az (X+Z))])/\Gb w w'):=fun w=>ah9 X Z w
  rw [ho,hA,ht,hB] at P n';have PP:ag ((0<=o/\0<=t/\o+t<=d)/\(0<=A/\A<b)/\(0<=B/\B<b)):=⟨⟨P.o.o0,P.o.t0,P.o.lt⟩,⟨P.o.a0,P.o.a1⟩,P.o.b0,P.o.b1⟩;have P1:ag (b-B<=A->o+t+1<=d):=fun k=>P.o.carry b0 k
  clear P hX hZ ho hA ht hB X0;have c1:(w.alloc (.cells #[BY a,BY b,By c] 212)).cell? (φ w.heap.size 1)=some (BY b):=by simp [go_sem]
  have l1:w.heap.size<(w.alloc (.cells #[BY a,BY b,By c] 212)).heap.size:=ε;have G0:ag (Gw w (w.alloc (.cells #[BY a,BY b,By c] 212))):=(Gw.refl w).alloc _ _;go_enter func165,ntmps165;rcases tt with ⟨t1,oH,wz,Jd⟩ | oH
  all_goals
   go_wp2_with fail
   (try rw [hW]);(try rw [hR])
   generalize w.alloc (.cells #[BY a,BY b,By c] 212)=wx at c1 l1 G0 ⊢;obtain ⟨N,hN⟩:=qbr w.heap.size;rw [hN] at c1 l1 ⊢;clear hN;have BF:ag (∀ w',Gw wx w'->w'.cell? (φ N 1)=some (BY b)/\N<w'.heap.size):=fun w' g=>⟨(g.cell _ _ l1).trans c1,Θ l1 g.size⟩
   go_cut [9,10] (fun s s' w'=>∃ q,s=IS q/\s'=BY A/\ag (Bx w' q 247 (By (ay o)) (BY (az o)))/\ag (wx.heap.size<=q)/\ag (Gw wx w'))
   case first =>
    go_region_with (first
     | (go_at_call 184;refine (T1.o _).mono ?_;rintro ex w4 ⟨rfl,qB⟩;have lC:=qB.gw;have kQ:ag (Gw wx w4):=(Gw.trans (by repeat (first | exact Gw.refl _ | exact ag.o δ | refine Gw.drew ?_ | refine Gw.alloc ?_ _ _)) lC);obtain ⟨XG,XI⟩:=BF.o w4 kQ.o;(first | (have kR:ag (Bx w4 _ 247 (By 0) (BY 0)):=(Bx.gw (by first | exact Bx.new _ _ _ _ | exact Bx.drw5 (Bx.new _ _ _ _) | exact ag.o δ | exact Bx.drw5 (ag.o δ)) lC);have XJ:=kR.o.c0;have XM:=kR.o.c1;have XP:=kR.o.fz 0;have XQ:=kR.o.fz 1) | skip);clear lC qB)
     | (go_at_call 183;refine (D1.o _).mono ?_;rintro ex w5 ⟨rfl,Ag⟩;have gw5:=Ag.gw;have n9:ag (Gw wx w5):=(Gw.trans (by repeat (first | exact Gw.refl _ | exact ag.o δ | refine Gw.drew ?_ | refine Gw.alloc ?_ _ _)) gw5);obtain ⟨yw5,lw5⟩:=BF.o w5 n9.o;(first | (have lP:ag (Bx w5 _ 247 (By 0) (BY 0)):=(Bx.gw (by first | exact Bx.new _ _ _ _ | exact Bx.drw5 (Bx.new _ _ _ _) | exact ag.o δ | exact Bx.drw5 (ag.o δ)) gw5);have ahb:=lP.o.c0;have ahc:=lP.o.c1;have ahd:=lP.o.fz 0;have ahe:=lP.o.fz 1) | skip);clear gw5 Ag))
    all_goals go_wp2_with fail
    all_goals go_meet
    all_goals
     case rel =>
      first
       | exact ⟨w5.heap.size,rfl,rfl,(show ag _ from Bx.new _ _ _ _),(show ag _ from n9.o.size),(show ag _ from n9.o.alloc _ _)⟩
       | exact ⟨w4.heap.size,rfl,rfl,(show ag _ from lP.o.set _ _),(show ag _ from kQ.o.size),(show ag _ from (n9.o.setCell kQ.o.size _).setCell kQ.o.size _)⟩
       | exact ⟨wx.heap.size,rfl,rfl,(show ag _ from lP.o.set _ _),(show ag _ from Yk _),(show ag _ from (n9.o.setCell (Yk _) _).setCell (Yk _) _)⟩
   case rest =>
    obtain ⟨wy,ym⟩:=qbs wc;subst ym;obtain ⟨q,rfl,rfl,XO,lq,gy⟩:=hcut;have GY:ag _:=G0.o.trans gy.o;obtain ⟨Mz,EZ⟩:=BF.o wy gy.o;clear BF c1 l1 G0 gy lq D1;have BF:ag (∀ w',Gw wy w'->w'.cell? (φ N 1)=some (BY b)/\N<w'.heap.size):=fun w' g=>⟨(g.cell _ _ EZ).trans Mz,Θ EZ g.size⟩
    go_wp2_with fail;go_cut [12,13] (fun s s' w'=>∃ q',s=.pointer (some (φ q' 0))/\s'=BY B/\ag (Bx w' q' 247 (By (ay t)) (BY (az t)))/\ag (wy.heap.size<=q')/\ag (Gw wy w'))
    case first =>
     have HKV:ag (∀ w',Gb wy w'->Gb wy w'/\w'.cell? (φ N 1)=some (BY b)):=fun w' g=>⟨g,(g.cell _ _ EZ).trans Mz⟩
     go_region_held3 (fun w'=>Gb wy w'/\w'.cell? (φ N 1)=some (BY b))
      ((refine HKV.o _ ?_;(repeat (first | exact Gb.refl _ | exact Ξ δ | exact ag.o δ | refine Gb.drew ?_ | refine Gb.alloc ?_ _ _ | refine Gb.setCell ?_ (by first | (simp;done) | omega | exact ag.o δ) _ | refine Gb.trans ?_ δ));done))
      (first
      | (go_at_call_of 184 (Value.int IntKind.i64 H);refine (T1.o _).mono ?_;rintro ex w4 ⟨rfl,qB⟩;have lC:=qB.gw;have Bw4:ag (Gb wy w4):=(Gb.trans (by repeat (first | exact Gb.refl _ | exact Ξ δ | exact ag.o δ | refine Gb.drew ?_ | refine Gb.alloc ?_ _ _)) qB);have Lw4:ag (wy.heap.size<=w4.heap.size):=Bw4.o.size;have kQ:ag (Gw wy w4):=(Gw.trans (by repeat (first | exact Gw.refl _ | exact ag.o δ | refine Gw.drew ?_ | refine Gw.alloc ?_ _ _)) lC);obtain ⟨XG,XI⟩:=BF.o w4 kQ.o;(first | (have kR:ag (Bx w4 _ 247 (By 0) (BY 0)):=(Bx.gw (by first | exact Bx.new _ _ _ _ | exact Bx.drw5 (Bx.new _ _ _ _) | exact ag.o δ | exact Bx.drw5 (ag.o δ)) lC);have XJ:=kR.o.c0;have XM:=kR.o.c1;have XP:=kR.o.fz 0;have XQ:=kR.o.fz 1) | skip);clear lC qB)
      | (go_at_call_of 184 (Value.int IntKind.i64 L);refine (T2.o _).mono ?_;rintro ex w6 ⟨rfl,MA⟩;have MC:=MA.gw;have Bw6:ag (Gb wy w6):=(Gb.trans (by repeat (first | exact Gb.refl _ | exact Ξ δ | exact ag.o δ | refine Gb.drew ?_ | refine Gb.alloc ?_ _ _)) MA);have Lw6:ag (wy.heap.size<=w6.heap.size):=Bw6.o.size;have E8:ag (Gw wy w6):=(Gw.trans (by repeat (first | exact Gw.refl _ | exact ag.o δ | refine Gw.drew ?_ | refine Gw.alloc ?_ _ _)) MC);obtain ⟨yw6,lw6⟩:=BF.o w6 E8.o;(first | (have Fa:ag (Bx w6 _ 247 (By 0) (BY 0)):=(Bx.gw (by first | exact Bx.new _ _ _ _ | exact Bx.drw5 (Bx.new _ _ _ _) | exact ag.o δ | exact Bx.drw5 (ag.o δ)) MC);have aiE:=Fa.o.c0;have aiF:=Fa.o.c1;have aiG:=Fa.o.fz 0;have aiH:=Fa.o.fz 1) | skip);clear MC MA)
      | (go_at_call 185;refine (AD.o _).mono ?_;rintro ex w7 ⟨rfl,MF⟩;have MH:=MF.gw;have Bw7:ag (Gb wy w7):=(Gb.trans (by repeat (first | exact Gb.refl _ | exact Ξ δ | exact ag.o δ | refine Gb.drew ?_ | refine Gb.alloc ?_ _ _)) MF);have Lw7:ag (wy.heap.size<=w7.heap.size):=Bw7.o.size;have Fb:ag (Gw wy w7):=(Gw.trans (by repeat (first | exact Gw.refl _ | exact ag.o δ | refine Gw.drew ?_ | refine Gw.alloc ?_ _ _)) MH);obtain ⟨yw7,lw7⟩:=BF.o w7 Fb.o;(first | (have Fc:ag (Bx w7 _ 247 (By 0) (BY 0)):=(Bx.gw (by first | exact Bx.new _ _ _ _ | exact Bx.drw5 (Bx.new _ _ _ _) | exact ag.o δ | exact Bx.drw5 (ag.o δ)) MH);have aiI:=Fc.o.c0;have aiJ:=Fc.o.c1;have aiK:=Fc.o.fz 0;have aiL:=Fc.o.fz 1) | skip);clear MH MF)
      | (go_at_call 183;refine (D2.o _).mono ?_;rintro ex w8 ⟨rfl,MJ⟩;have MK:=MJ.gw;have Bw8:ag (Gb wy w8):=(Gb.trans (by repeat (first | exact Gb.refl _ | exact Ξ δ | exact ag.o δ | refine Gb.drew ?_ | refine Gb.alloc ?_ _ _)) MJ);have Lw8:ag (wy.heap.size<=w8.heap.size):=Bw8.o.size;have uX:ag (Gw wy w8):=(Gw.trans (by repeat (first | exact Gw.refl _ | exact ag.o δ | refine Gw.drew ?_ | refine Gw.alloc ?_ _ _)) MK);obtain ⟨yw8,lw8⟩:=BF.o w8 uX.o;(first | (have sI:ag (Bx w8 _ 247 (By 0) (BY 0)):=(Bx.gw (by first | exact Bx.new _ _ _ _ | exact Bx.drw5 (Bx.new _ _ _ _) | exact ag.o δ | exact Bx.drw5 (ag.o δ)) MK);have aiM:=sI.o.c0;have aiN:=sI.o.c1;have aiO:=sI.o.fz 0;have aiP:=sI.o.fz 1) | skip);clear MK MJ))
     all_goals go_wp2_with fail
     all_goals go_meet
     all_goals
      case rel =>
       first
        | exact ⟨w8.heap.size,rfl,rfl,(show ag _ from Bx.new _ _ _ _),(show ag _ from uX.o.size),(show ag _ from uX.o.alloc _ _)⟩
        | exact ⟨w7.heap.size,rfl,rfl,(show ag _ from sI.o.set _ _),(show ag _ from Fb.o.size),(show ag _ from (uX.o.setCell Fb.o.size _).setCell Fb.o.size _)⟩
        | exact ⟨w6.heap.size,rfl,rfl,(show ag _ from sI.o.set _ _),(show ag _ from E8.o.size),(show ag _ from (uX.o.setCell E8.o.size _).setCell E8.o.size _)⟩
        | exact ⟨w4.heap.size,rfl,rfl,(show ag _ from sI.o.set _ _),(show ag _ from kQ.o.size),(show ag _ from (uX.o.setCell kQ.o.size _).setCell kQ.o.size _)⟩
        | exact ⟨wy.heap.size,rfl,rfl,(show ag _ from sI.o.set _ _),(show ag _ from Yk _),(show ag _ from (uX.o.setCell (Yk _) _).setCell (Yk _) _)⟩
    case rest =>
     obtain ⟨wz,hwz⟩:=qbs wc;subst hwz;obtain ⟨q',rfl,rfl,XT,lq',gz⟩:=hcut;have YS:ag (Bx wz q 247 (By (ay o)) (BY (az o))):=XO.o.gw gz.o;obtain ⟨c1z,l1z⟩:=BF.o wz gz.o;have GZ:ag _:=GY.o.trans gz.o;clear BF Mz EZ GY gz lq' XO T1 T2 D2 AD;obtain ⟨⟨o0,o1,o2⟩,⟨p1,p2⟩,r1,r2⟩:=PP.o;have eo:az o=o:=(by unfold az;omega);have et:az t=t:=(by unfold az;omega);have x1:=YS.o.c1;have x2:=XT.o.c1;rw [eo] at x1;rw [et] at x2;have wot:IntKind.u64.wrap (o+t)=o+t:=(by rw [qao];omega);have wbB:IntKind.u64.wrap (b-B)=b-B:=(by rw [qao];omega);clear YS XT;by_cases k:b-B<=A;have tk:decide (b-B<=A)=true:=(by simpa using k);have S:=n'.o;rw [Ym k] at S;have lt1:o+t+1<18446744073709551616:=(by have h1:=P1.o k;omega);have wo1:IntKind.u64.wrap (o+t+1)=o+t+1:=(by rw [qao];omega);obtain ⟨m,hm⟩:=qbr (o+t+1);rw [hm] at wo1
     rotate_left
     have tk:decide (b-B<=A)=false:=(by simpa using k);have S:=n'.o;rw [Yl k] at S;obtain ⟨m,hm⟩:=qbr (o+t);rw [hm] at wot
     rotate_left
     all_goals
      have SQ:Q=M+m:=ω;have m0:0<=m/\m<18446744073709551616:=ω;clear S;have Fe:ag (2305843009213693952<M+m->V=0/\z=false):=(by rw [<-SQ];exact VB.o);have YU:ag (M+m<=2305843009213693952->V=M+m/\z=true):=(by rw [<-SQ];exact VG.o);clear SQ VB VG n' PP;by_cases k2:2305843009213693952<m
      ·have t2:decide (2305843009213693952<m)=true:=(by simpa using k2);go_wp2_with fail;exact bodyPost_ret (v:=.tuple #[By 0,.bool false]) (by simp [results,results165,go_sem]) rfl ⟨by rw [(Fe.o ω).1,(Fe.o ω).2],GZ.o⟩
      ·have t2:decide (2305843009213693952<m)=false:=(by simpa using k2);have wf:IntKind.u64.wrap (2305843009213693952-m)=2305843009213693952-m:=(by rw [qao];omega);by_cases k3:2305843009213693952-m<M
       ·have t4:decide (2305843009213693952-m<M)=true:=(by simpa using k3);go_wp2_with fail;exact bodyPost_ret (v:=.tuple #[By 0,.bool false]) (by simp [results,results165,go_sem]) rfl ⟨by rw [(Fe.o ω).1,(Fe.o ω).2],GZ.o⟩
       ·have t4:decide (2305843009213693952-m<M)=false:=(by simpa using k3);have wm:IntKind.u64.wrap (M+m)=M+m:=(by rw [qao];omega);have wi:IntKind.i64.wrap (M+m)=M+m:=(by rw [Δ];omega);go_wp2_with fail;exact bodyPost_ret (v:=.tuple #[By (M+m),.bool true]) (by simp [results,results165,go_sem]) rfl ⟨by rw [(YU.o ω).1,(YU.o ω).2],GZ.o⟩
end Go.Proofs.YtaemofgeciklkaaGreat
namespace Go.Proofs.YtaemofgeciklkaaGreat
theorem o5c:jH:=fun eps ao n cp f p0 p1 hn w h=>abZ aik eps ao n cp f p0 p1 hn w h
