import Derived.Deep.CutBlock
import Derived.Deep.DeepCutAuto
import Derived.StillTailTactics
import Derived.Test.YtaemofgeciklkaaGreatEPEl
set_option linter.unusedVariables false
set_option maxHeartbeats 8000000
set_option maxRecDepth 20000
open Go.Proofs.Tryz
namespace Go.Proofs.YtaemofgeciklkaaGreat
open Go.RowKit
variable {α:Type}
theorem Sk (x y:Hd α) (w:World):Calls prog 170 #[x.v,y.v] w fun e w'=>e=χ (.bool (jd x y))/\Gw w w':=by
 obtain ⟨k1,i1,⟨b1,o1,c1,l1⟩⟩:=x;obtain ⟨k2,i2,⟨b2,o2,c2,l2⟩⟩:=y;simp only [Hd.v];obtain ⟨n1,p8⟩:=qbr l1.length;obtain ⟨n2,hJ⟩:=qbr l2.length;rw [p8,hJ];have AB:∀ r:Bool,((decide (k1<k2)||(decide (k1=k2)&&decide (i1<i2)))=r)->ag (jd (⟨k1,i1,⟨b1,o1,c1,l1⟩⟩:Hd α) ⟨k2,i2,⟨b2,o2,c2,l2⟩⟩=r):=fun r h=>h
 have G:ag (Gw w ((w.alloc (.cells #[BY k1,By (i1:Int),ψ b1 o1 n1 c1] 197)).alloc (.cells #[BY k2,By (i2:Int),ψ b2 o2 n2 c2] 197))):=((Gw.refl w).alloc _ _).alloc _ _;by_cases t1:k1<k2
 ·have A:=AB true (by simp [t1])
  have oH:decide (k1<k2)=true:=by simpa using t1
  clear AB t1;go_enter func170,ntmps170;go_wp2_with fail;go_ret;exact ⟨by rw [A.o];rfl,G.o⟩
 ·have oH:decide (k1<k2)=false:=by simpa using t1
  by_cases t2:k1=k2
  ·have Jd:(k1 == k2)=true:=(by simpa using t2);by_cases t3:i1<i2
   ·have A:=AB true (by simp [t2,t3])
    have t3':decide ((i1:Int)<(i2:Int))=true:=(by simpa using t3);clear AB t1 t2;go_enter func170,ntmps170;go_wp2_with fail;go_ret;exact ⟨by rw [A.o];rfl,G.o⟩
   ·have A:=AB false (by simp [t1,t3])
    have t3':decide ((i1:Int)<(i2:Int))=false:=(by simpa using t3);clear AB t1 t2;go_enter func170,ntmps170;go_wp2_with fail;go_ret;exact ⟨by rw [A.o];rfl,G.o⟩
  ·have A:=AB false (by simp [t1,t2])
   have Jd:(k1 == k2)=false:=(by simpa using t2);clear AB t1 t2;go_enter func170,ntmps170;go_wp2_with fail;go_ret;exact ⟨by rw [A.o];rfl,G.o⟩
theorem adI (hb a n g cap base:Nat) (kf pv:Value) (H:List (Hd α)) (hn:H.length=n) (hJ:n<=4000000) (ha:a<=4000000) (w:World) (hh:w.heap[hb]?=some (.cells #[kf,ψ g 0 n cap,pv] 194 (0,0))) (hr:HR 197 w base (ψ g 0 n cap) H) :
  Calls prog 171 #[IS hb,By (a:Int)] w fun e w'=>(∃ d:Nat,e=χ (By (d:Int))/\Ij H a d)/\Gw w w':=by
 obtain ⟨a2,ha2⟩:∃ a2:Nat,a2=2*a:=⟨_,rfl⟩;obtain ⟨c1,Sl⟩:∃ c:Nat,c=2*a+1:=⟨_,rfl⟩;obtain ⟨c2,Sm⟩:∃ c:Nat,c=2*a+2:=⟨_,rfl⟩;have w1:IntKind.i64.wrap (2*(a:Int))=(a2:Int):=by rw [Δ];omega
 have w2:IntKind.i64.wrap ((a2:Int)+1)=(c1:Int):=by rw [Δ];omega
 have w3:IntKind.i64.wrap ((a2:Int)+2)=(c2:Int):=by rw [Δ];omega
 have C1:ag _:=Sl;have C2:ag _:=Sm;have HB:ag _:=hh;have Je:ag _:=hr;have LN:ag _:=hn;have AH:ag (∀ (x y:Hd α) (W:World),Calls prog 170 #[x.v,y.v] W fun e w'=>e=χ (.bool (jd x y))/\Gw W w'):=fun x y W=>Sk x y W
 have yX:=(fG hr hn).2.1;have c9:∀ W:World,(Instr.index 254 (.agg #[By (c1:Int),By (c2:Int)]) (By 0)).run prog W=.ok (By (c1:Int)) W:=fun _=>η
 have yY:∀ W:World,(Instr.index 254 (.agg #[By (c1:Int),By (c2:Int)]) (By 1)).run prog W=.ok (By (c2:Int)) W:=fun _=>η
 clear hh hr hn ha2 Sl Sm;go_enter func171,ntmps171;go_wp2_with fail;go_loopg [5,16] 2 (fun gg s5 Jf wr=>∃ (f j:Nat),s5=By (f:Int)/\Jf=By (j:Int)/\j<=2/\2-j<=gg/\ag (fW H a j f)/\ag (Gw w wr))
 case atStart=>exact ⟨a,0,rfl,rfl,Γ _,ω,fW.start H a,Gw.refl w⟩
 case round =>
  obtain ⟨f,j,rfl,rfl,j2,jg,BI,GG⟩:=hrel;have bG:hb<w.heap.size:=ak HB.o;have gl:g<w.heap.size:=(fG Je.o LN.o).2.2.1;have l6:wr.cell? (φ hb 1)=some (ψ g 0 n cap):=(GG.o.cell _ _ bG).trans (aj HB.o rfl);by_cases jl:j<2
  ·rcases (show j=0\/j=1 by omega) with rfl | rfl
   ·by_cases cl:c1<n
    ·have Jg:decide ((c1:Int)<(n:Int))=true:=(by simpa using cl);have fl:f<n:=(by have:=BI.o.lt C1.o (by rw [LN.o];exact cl);rw [LN.o] at this;exact this);have dR:=(fG Je.o LN.o).2.2.2;obtain ⟨e0,e1,e2⟩:=dR c1 cl;obtain ⟨f0,f1,f2⟩:=dR f fl;clear dR;obtain ⟨x,hx⟩:=qbr (gt H c1);obtain ⟨y,hy⟩:=qbr (gt H f);have gX:ag (jd x y=false->fW H a (0+1) f):=fun q=>BI.o.stay C1.o (by rw [hx,hy];exact Ii.1 q)
     have p9:ag (jd x y=true->fW H a (0+1) c1):=fun q=>BI.o.turn ω C1.o (by rw [LN.o];exact cl) (by rw [hx,hy];exact Cr.1 q)
     rw [hx] at e0 e1 e2;rw [hy] at f0 f1 f2;have AX:=AH.o x y;obtain ⟨ab,cN⟩:=qbr (jd x y);rw [cN] at AX gX p9;obtain ⟨xk,xi,⟨xb,xo,xc,xl⟩⟩:=x;obtain ⟨yk,yi,⟨yb,yo,yc,yl⟩⟩:=y;simp only [Hd.v,aL.v] at AX e2 f2;obtain ⟨xn,jo⟩:=qbr xl.length;obtain ⟨yn,ie⟩:=qbr yl.length;rw [jo] at AX e2;rw [ie] at AX f2;have wv:ag _:=AX;have HW:ag (∀ w',Gw wr w'->Gw wr w'/\w'.cell? (φ hb 1)=some (ψ g 0 n cap)/\w'.cell? (φ g (c1*3))=some (BY xk)/\w'.cell? (φ g (c1*3+1))=some (By (xi:Int))/\w'.cell? (φ g (c1*3+2))=some (ψ xb xo xn xc)/\w'.cell? (φ g (f*3))=some (BY yk)/\w'.cell? (φ g (f*3+1))=some (By (yi:Int))/\w'.cell? (φ g (f*3+2))=some (ψ yb yo yn yc)):=fun w' gg=>by
      have G':=GG.o.trans gg;have k:=fun o=>G'.cell g o gl
      exact ⟨gg,(gg.cell _ _ (Θ bG GG.o.size)).trans l6,(k _).trans e0,(k _).trans e1,(k _).trans e2,(k _).trans f0,(k _).trans f1,(k _).trans f2⟩
     clear hx hy cN jo ie AX e0 e1 e2 f0 f1 f2 l6 BI;obtain ⟨wS,aS⟩:=qbs wr;subst aS;go_wp2_with fail;go_region_held3 (fun w'=>Gw wS w'/\w'.cell? (φ hb 1)=some (ψ g 0 n cap)/\w'.cell? (φ g (c1*3))=some (BY xk)/\w'.cell? (φ g (c1*3+1))=some (By (xi:Int))/\w'.cell? (φ g (c1*3+2))=some (ψ xb xo xn xc)/\w'.cell? (φ g (f*3))=some (BY yk)/\w'.cell? (φ g (f*3+1))=some (By (yi:Int))/\w'.cell? (φ g (f*3+2))=some (ψ yb yo yn yc))
      ((refine HW.o _ ?_;(repeat (first | exact Gw.refl _ | exact Ξ δ | exact ag.o δ | refine Gw.drew ?_ | refine Gw.drewN ?_ _));done))
      ((go_at_call 170;refine (wv.o _).mono ?_;rintro ex u5 ⟨rfl,g5⟩;have G5:ag (Gw wS u5):=Gw.trans (by repeat (first | exact Gw.refl _ | exact Ξ δ | exact ag.o δ | refine Gw.drew ?_ | refine Gw.drewN ?_ _)) g5;clear g5))
     have GX:ag _:=GG.o.trans G5.o;cases ab with
     | true =>
      have D:=p9.o rfl;have DD:ag _:=D;clear D gX p9 HW;go_wp2_with fail;go_roundg (2-(0+1))
      case measure=>omega
      case rel=>exact ⟨c1,0+1,rfl,by go_num,ω,Yk _,DD,GX⟩
     | false =>
      have D:=gX.o rfl;have DD:ag _:=D;clear D gX p9 HW;go_wp2_with fail;go_roundg (2-(0+1))
      case measure=>omega
      case rel=>exact ⟨f,0+1,rfl,by go_num,ω,Yk _,DD,GX⟩
    ·have Jg:decide ((c1:Int)<(n:Int))=false:=(by simp;omega);have D:=BI.o.o C1.o (by rw [LN.o];exact cl)
     have DD:ag _:=D;clear D BI;go_wp2_with fail;go_quiet (fail);go_wp2_with fail;go_roundg (2-(0+1))
     case measure=>omega
     case rel=>exact ⟨f,0+1,rfl,by go_num,ω,Yk _,DD,(show ag _ from by repeat (first | exact GG.o | refine Gw.drew ?_ | refine Gw.drewN ?_ _))⟩
   ·by_cases cl:c2<n
    ·have Jg:decide ((c2:Int)<(n:Int))=true:=(by simpa using cl);have fl:f<n:=(by have:=BI.o.lt C2.o (by rw [LN.o];exact cl);rw [LN.o] at this;exact this);have dR:=(fG Je.o LN.o).2.2.2;obtain ⟨e0,e1,e2⟩:=dR c2 cl;obtain ⟨f0,f1,f2⟩:=dR f fl;clear dR;obtain ⟨x,hx⟩:=qbr (gt H c2);obtain ⟨y,hy⟩:=qbr (gt H f);have gX:ag (jd x y=false->fW H a (1+1) f):=fun q=>BI.o.stay C2.o (by rw [hx,hy];exact Ii.1 q)
     have p9:ag (jd x y=true->fW H a (1+1) c2):=fun q=>BI.o.turn ω C2.o (by rw [LN.o];exact cl) (by rw [hx,hy];exact Cr.1 q)
     rw [hx] at e0 e1 e2;rw [hy] at f0 f1 f2;have AX:=AH.o x y;obtain ⟨ab,cN⟩:=qbr (jd x y);rw [cN] at AX gX p9;obtain ⟨xk,xi,⟨xb,xo,xc,xl⟩⟩:=x;obtain ⟨yk,yi,⟨yb,yo,yc,yl⟩⟩:=y;simp only [Hd.v,aL.v] at AX e2 f2;obtain ⟨xn,jo⟩:=qbr xl.length;obtain ⟨yn,ie⟩:=qbr yl.length;rw [jo] at AX e2;rw [ie] at AX f2;have wv:ag _:=AX;have HW:ag (∀ w',Gw wr w'->Gw wr w'/\w'.cell? (φ hb 1)=some (ψ g 0 n cap)/\w'.cell? (φ g (c2*3))=some (BY xk)/\w'.cell? (φ g (c2*3+1))=some (By (xi:Int))/\w'.cell? (φ g (c2*3+2))=some (ψ xb xo xn xc)/\w'.cell? (φ g (f*3))=some (BY yk)/\w'.cell? (φ g (f*3+1))=some (By (yi:Int))/\w'.cell? (φ g (f*3+2))=some (ψ yb yo yn yc)):=fun w' gg=>by
      have G':=GG.o.trans gg;have k:=fun o=>G'.cell g o gl
      exact ⟨gg,(gg.cell _ _ (Θ bG GG.o.size)).trans l6,(k _).trans e0,(k _).trans e1,(k _).trans e2,(k _).trans f0,(k _).trans f1,(k _).trans f2⟩
     clear hx hy cN jo ie AX e0 e1 e2 f0 f1 f2 l6 BI;obtain ⟨wS,aS⟩:=qbs wr;subst aS;go_wp2_with fail;go_region_held3 (fun w'=>Gw wS w'/\w'.cell? (φ hb 1)=some (ψ g 0 n cap)/\w'.cell? (φ g (c2*3))=some (BY xk)/\w'.cell? (φ g (c2*3+1))=some (By (xi:Int))/\w'.cell? (φ g (c2*3+2))=some (ψ xb xo xn xc)/\w'.cell? (φ g (f*3))=some (BY yk)/\w'.cell? (φ g (f*3+1))=some (By (yi:Int))/\w'.cell? (φ g (f*3+2))=some (ψ yb yo yn yc))
      ((refine HW.o _ ?_;(repeat (first | exact Gw.refl _ | exact Ξ δ | exact ag.o δ | refine Gw.drew ?_ | refine Gw.drewN ?_ _));done))
      ((go_at_call 170;refine (wv.o _).mono ?_;rintro ex u5 ⟨rfl,g5⟩;have G5:ag (Gw wS u5):=Gw.trans (by repeat (first | exact Gw.refl _ | exact Ξ δ | exact ag.o δ | refine Gw.drew ?_ | refine Gw.drewN ?_ _)) g5;clear g5))
     have GX:ag _:=GG.o.trans G5.o;cases ab with
     | true =>
      have D:=p9.o rfl;have DD:ag _:=D;clear D gX p9 HW;go_wp2_with fail;go_roundg (2-(1+1))
      case measure=>omega
      case rel=>exact ⟨c2,1+1,rfl,by go_num,ω,Yk _,DD,GX⟩
     | false =>
      have D:=gX.o rfl;have DD:ag _:=D;clear D gX p9 HW;go_wp2_with fail;go_roundg (2-(1+1))
      case measure=>omega
      case rel=>exact ⟨f,1+1,rfl,by go_num,ω,Yk _,DD,GX⟩
    ·have Jg:decide ((c2:Int)<(n:Int))=false:=(by simp;omega);have D:=BI.o.o C2.o (by rw [LN.o];exact cl)
     have DD:ag _:=D;clear D BI;go_wp2_with fail;go_quiet (fail);go_wp2_with fail;go_roundg (2-(1+1))
     case measure=>omega
     case rel=>exact ⟨f,1+1,rfl,by go_num,ω,Yk _,DD,(show ag _ from by repeat (first | exact GG.o | refine Gw.drew ?_ | refine Gw.drewN ?_ _))⟩
  ·have ej:j=2:=(by omega);subst ej;have DN:ag _:=BI.o.done;clear BI;go_wp2_with fail;go_ret;exact ⟨⟨f,rfl,DN.o⟩,GG.o⟩
theorem adJ (hb a n g cap base:Nat) (kf pv:Value) (H:List (Hd α)) (hn:H.length=n) (hJ:n<=4000000) (ha:a<n) (w:World) (hp:eV 194 197 w hb base kf (ψ g 0 n cap) pv H) (hR:nu H a) :
  Calls prog 151 #[IS hb,By (a:Int)] w fun e w'=>e=π #[]/\(∃ H',H'.Perm H/\bU H'/\HR 197 w' base (ψ g 0 n cap) H')/\Gx (fun q=>q=g) w w':=by
 obtain ⟨hh,hr,ne⟩:=hp;have iv:g≠hb:=ne g rfl;have HB:ag _:=hh;have AH:ag (∀ (x y:Hd α) (W:World),Calls prog 170 #[x.v,y.v] W fun e w'=>e=χ (.bool (jd x y))/\Gw W w'):=fun x y W=>Sk x y W
 have bG:hb<w.heap.size:=ak hh;have gl:g<w.heap.size:=(fG hr hn).2.2.1;have yX:=(fG hr hn).2.1;have R0:ag _:=hr;have Jh:ag _:=hR;have LN:ag _:=hn;clear hh hr ne hR hn;go_enter func151,ntmps151;go_wp2_with fail;go_loopg [1] a (fun gg s1 wr=>∃ (b:Nat) (H':List (Hd α)),s1=By (b:Int)/\b<n/\b<=gg/\ag (nu H' b/\H'.Perm H/\H'.length=n/\HR 197 wr base (ψ g 0 n cap) H')/\ag (Gx (fun q=>q=g) w wr))
 case atStart=>exact ⟨a,H,rfl,ha,Yk _,⟨Jh.o,List.Perm.refl _,LN.o,R0.o⟩,Gx.refl _ _⟩
 case round =>
  obtain ⟨b,H',rfl,bn,bg,HH,GG⟩:=hrel;have l6:wr.heap[hb]?=some (.cells #[kf,ψ g 0 n cap,pv] 194 (0,0)):=(GG.o.block _ bG (fun e=>iv e.symm)).trans HB.o
  have C5:ag _:=l6;by_cases b0:0<b
  ·have Ge:decide ((0:Int)<(b:Int))=true:=(by simpa using b0);obtain ⟨p,hp⟩:∃ p:Nat,p=b-1:=⟨_,rfl⟩;obtain ⟨u,hu⟩:∃ u:Nat,u=(b-1)/2:=⟨_,rfl⟩;have w1:IntKind.i64.wrap ((b:Int)-1)=(p:Int):=(by rw [Δ];omega);have w2:ag (wrap64 ((p:Int)/2)=(u:Int)):=(by show _=_;have e:(p:Int)/2=(u:Int):=ω;rw [e];unfold wrap64;omega);have un:u<n:=ω;have ub:u<b:=ω;have UE:ag _:=hu;obtain ⟨x,hx⟩:=qbr (gt H' b);obtain ⟨y,hy⟩:=qbr (gt H' u);have dR:=(fG HH.o.2.2.2 HH.o.2.2.1).2.2.2;obtain ⟨e0,e1,e2⟩:=dR b bn;obtain ⟨f0,f1,f2⟩:=dR u un;have fz:=(fG HH.o.2.2.2 HH.o.2.2.1).1;clear dR hp;rw [hx] at e0 e1 e2;rw [hy] at f0 f1 f2;have C6:ag (jd x y=false->bU H'):=fun q=>HH.o.1.done (.inr (by rw [<-UE.o,hx,hy];exact Ii.1 q))
   have C7:ag (jd x y=true->nu (swp H' b u) u):=fun q=>by
    have:=HH.o.1.step (by rw [HH.o.2.2.1];exact bn) b0 (by rw [<-UE.o,hx,hy];exact Cr.1 q)
    rw [<-UE.o] at this;exact this
   have yZ:ag ((swp H' b u).Perm H/\(swp H' b u).length=n):=⟨(QD H' (by rw [HH.o.2.2.1];exact bn) (by rw [HH.o.2.2.1];exact un)).trans HH.o.2.1,by rw [vN];exact HH.o.2.2.1⟩
   have Da:ag (∀ W',HR 197 W' base (ψ g 0 n cap) H'->_):=fun W' h=>Rt h HH.o.2.2.1 bn un ω hx hy
   have AX:=AH.o x y;obtain ⟨ab,cN⟩:=qbr (jd x y);rw [cN] at AX C6 C7;obtain ⟨xk,xi,⟨xb,xo,xc,xl⟩⟩:=x;obtain ⟨yk,yi,⟨yb,yo,yc,yl⟩⟩:=y;simp only [Hd.v,aL.v] at AX e2 f2;obtain ⟨xn,jo⟩:=qbr xl.length;obtain ⟨yn,ie⟩:=qbr yl.length;rw [jo] at AX e2;rw [ie] at AX f2;simp only [lu,aL.v,jo,ie] at Da;have wv:ag _:=AX;have wE:hb<wr.heap.size:=ak l6;have gr:g<wr.heap.size:=(fG HH.o.2.2.2 HH.o.2.2.1).2.2.1;have HW:ag (∀ w',Gw wr w'->Gw wr w'/\w'.cell? (φ hb 1)=some (ψ g 0 n cap)/\w'.cell? (φ g (b*3))=some (BY xk)/\w'.cell? (φ g (b*3+1))=some (By (xi:Int))/\w'.cell? (φ g (b*3+2))=some (ψ xb xo xn xc)/\w'.cell? (φ g (u*3))=some (BY yk)/\w'.cell? (φ g (u*3+1))=some (By (yi:Int))/\w'.cell? (φ g (u*3+2))=some (ψ yb yo yn yc)):=fun w' gg=>by
    have k:=fun o=>gg.cell g o gr
    exact ⟨gg,(gg.cell _ _ wE).trans (aj l6 rfl),(k _).trans e0,(k _).trans e1,(k _).trans e2,(k _).trans f0,(k _).trans f1,(k _).trans f2⟩
   clear hx hy cN jo ie AX e0 e1 e2 f0 f1 f2 l6 fz hu;obtain ⟨wS,aS⟩:=qbs wr;subst aS;go_wp2_with fail;rw [w2.o];go_region_held3 (fun w'=>Gw wS w'/\w'.cell? (φ hb 1)=some (ψ g 0 n cap)/\w'.cell? (φ g (b*3))=some (BY xk)/\w'.cell? (φ g (b*3+1))=some (By (xi:Int))/\w'.cell? (φ g (b*3+2))=some (ψ xb xo xn xc)/\w'.cell? (φ g (u*3))=some (BY yk)/\w'.cell? (φ g (u*3+1))=some (By (yi:Int))/\w'.cell? (φ g (u*3+2))=some (ψ yb yo yn yc))
    ((refine HW.o _ ?_;(repeat (first | exact Gw.refl _ | exact Ξ δ | exact ag.o δ | refine Gw.drew ?_ | refine Gw.drewN ?_ _));done))
    ((go_at_call 170;refine (wv.o _).mono ?_;rintro ex u5 ⟨rfl,g5⟩;have G5:ag (Gw wS u5):=Gw.trans (by repeat (first | exact Gw.refl _ | exact Ξ δ | exact ag.o δ | refine Gw.drew ?_ | refine Gw.drewN ?_ _)) g5;clear g5))
   obtain ⟨_,t0,t1,t2,t3,t4,t5,t6⟩:=HW.o u5 G5.o;have RX:ag _:=vV HH.o.2.2.2 G5.o;have GX:ag _:=GG.o.tw G5.o;have fz:=(fG RX.o HH.o.2.2.1).1;cases ab with
   | false =>
    have D:=C6.o rfl;have DD:ag _:=D;clear D C6 C7 HW Da;go_wp2_with fail;refine bodyPost_ret (results_none rfl _ _ _) rfl ?_;exact ⟨rfl,⟨H',HH.o.2.1,DD.o,RX.o⟩,GX.o⟩
   | true =>
    have D:=C7.o rfl;have DD:ag _:=D;obtain ⟨W1,W2,E1,E2,RY,kp,qa,⟨r0,r1,r2⟩,g2⟩:=Da.o u5 RX.o;have Ji:ag _:=RY;have G2:ag _:=GX.o.trans g2 (fun q hq=>.inl hq)
    have Cx:W1.cell? (φ hb 1)=some (ψ g 0 n cap):=by
     have e:W1.heap[hb]?=u5.heap[hb]?:=kp hb (fun e=>iv e.symm)
     rw [qba e];exact t0
    have Sn:=fz (b*3);have So:=fz (b*3+1);have Sq:=fz (b*3+2);have fz3:=qa (u*3);have fz4:=qa (u*3+1);have fz5:=qa (u*3+2);clear fz qa D C6 C7 HW Da wv kp RY g2;have Jj:hb≠g:=fun e=>iv e.symm
    go_wp2_with fail;go_big_region
    go_wp2_with fail;go_roundg u
    case measure=>omega
    case rel=>exact ⟨u,swp H' b u,rfl,un,Yk _,⟨DD.o,yZ.o.1,yZ.o.2,Ji.o⟩,(show ag _ from G2.o.drew)⟩
  ·have Ge:decide ((0:Int)<(b:Int))=false:=(by simp;omega);have DD:ag _:=HH.o.1.done (.inl ω);go_wp2_with fail;go_end0;exact ⟨rfl,⟨H',HH.o.2.1,DD.o,HH.o.2.2.2⟩,GG.o⟩
theorem adK (hb a n g cap base:Nat) (kf pv:Value) (H:List (Hd α)) (hn:H.length=n) (hJ:n<=4000000) (ha:a<=n) (w:World) (hp:eV 194 197 w hb base kf (ψ g 0 n cap) pv H) (hR:pP H a) :
  Calls prog 152 #[IS hb,By (a:Int)] w fun e w'=>e=π #[]/\(∃ H',H'.Perm H/\bU H'/\HR 197 w' base (ψ g 0 n cap) H')/\Gx (fun q=>q=g) w w':=by
 obtain ⟨hh,hr,ne⟩:=hp;have iv:g≠hb:=ne g rfl;have HB:ag _:=hh;have BL:ag (∀ (a:Nat) (H:List (Hd α)) (W:World),H.length=n->a<=4000000->W.heap[hb]?=some (.cells #[kf,ψ g 0 n cap,pv] 194 (0,0))->HR 197 W base (ψ g 0 n cap) H->Calls prog 171 #[IS hb,By (a:Int)] W fun e w'=>(∃ d:Nat,e=χ (By (d:Int))/\Ij H a d)/\Gw W w'):=fun a H W h1 h2 h3 h4=>adI hb a n g cap base kf pv H h1 hJ h2 W h3 h4
 have bG:hb<w.heap.size:=ak hh;have yX:=(fG hr hn).2.1;have R0:ag _:=hr;have Jh:ag _:=hR;have LN:ag _:=hn;clear hh hr ne hR hn;go_enter func152,ntmps152;go_wp2_with fail;go_loopg [1] (n-a) (fun gg s1 wr=>∃ (b:Nat) (H':List (Hd α)),s1=By (b:Int)/\b<=n/\n-b<=gg/\ag (pP H' b/\H'.Perm H/\H'.length=n/\HR 197 wr base (ψ g 0 n cap) H')/\ag (Gx (fun q=>q=g) w wr))
 case atStart=>exact ⟨a,H,rfl,ha,Yk _,⟨Jh.o,List.Perm.refl _,LN.o,R0.o⟩,Gx.refl _ _⟩
 case round =>
  obtain ⟨b,H',rfl,bn,bg,HH,GG⟩:=hrel;have l6:wr.heap[hb]?=some (.cells #[kf,ψ g 0 n cap,pv] 194 (0,0)):=(GG.o.block _ bG (fun e=>iv e.symm)).trans HB.o
  have C5:ag _:=l6;clear l6;go_wp2_with fail;refine (BL.o b H' _ HH.o.2.2.1 ω C5.o HH.o.2.2.2).mono ?_;rintro ex u5 ⟨⟨d,rfl,hd⟩,g5⟩;have HD:ag _:=hd;have RX:ag _:=vV HH.o.2.2.2 g5;have GX:ag _:=GG.o.tw g5;have HB5:ag (u5.heap[hb]?=some (.cells #[kf,ψ g 0 n cap,pv] 194 (0,0))):=(g5.below.block _ (ak C5.o)).trans C5.o;clear hd g5;by_cases db:d=b
  ·subst db
   have db':((d:Int) == (d:Int))=true:=ε;have DD:ag (bU H'):=HH.o.1.done (by
    rcases HD.o with q | q
    ·exact q.2
    ·exact absurd q.1 (Nat.lt_irrefl _))
   go_wp2_with fail;refine bodyPost_ret (results_none rfl _ _ _) rfl ?_
   exact ⟨rfl,⟨H',HH.o.2.1,DD.o,RX.o⟩,GX.o⟩
  ·have db':((d:Int) == (b:Int))=false:=(by simp;omega);have tV:ag (b<d/\d<H'.length/\(d-1)/2=b/\(gt H' d).lt (gt H' b)/\∀ c,0<c->c<H'.length->(c-1)/2=b->¬ (gt H' c).lt (gt H' d)):=by
    rcases HD.o with q | q
    ·exact absurd q.1 db
    ·exact q
   have dn:d<n:=(by have:=tV.o.2.1;rw [HH.o.2.2.1] at this;exact this);have bd:b<d:=tV.o.1;have Jk:b<n:=ω;have DD:ag _:=HH.o.1.step bd tV.o.2.1 tV.o.2.2.1 tV.o.2.2.2.1 tV.o.2.2.2.2;have yZ:ag ((swp H' b d).Perm H/\(swp H' b d).length=n):=⟨(QD H' (by rw [HH.o.2.2.1];exact Jk) tV.o.2.1).trans HH.o.2.1,by rw [vN];exact HH.o.2.2.1⟩
   obtain ⟨x,hx⟩:=qbr (gt H' b);obtain ⟨y,hy⟩:=qbr (gt H' d);have dR:=(fG RX.o HH.o.2.2.1).2.2.2;have fz:=(fG RX.o HH.o.2.2.1).1;obtain ⟨e0,e1,e2⟩:=dR b Jk;obtain ⟨f0,f1,f2⟩:=dR d dn;obtain ⟨W1,W2,E1,E2,RY,kp,qa,⟨r0,r1,r2⟩,g2⟩:=Rt RX.o HH.o.2.2.1 Jk dn ω hx hy;rw [hx] at e0 e1 e2;rw [hy] at f0 f1 f2;have Ji:ag _:=RY;have G2:ag _:=GX.o.trans g2 (fun q hq=>.inl hq)
   have t0:u5.cell? (φ hb 1)=some (ψ g 0 n cap):=aj HB5.o rfl;have Cx:W1.cell? (φ hb 1)=some (ψ g 0 n cap):=by
    have e:W1.heap[hb]?=u5.heap[hb]?:=kp hb (fun e=>iv e.symm)
    rw [qba e];exact t0
   have Sn:=fz (b*3);have So:=fz (b*3+1);have Sq:=fz (b*3+2);have fz3:=qa (d*3);have fz4:=qa (d*3+1);have fz5:=qa (d*3+2);obtain ⟨xk,xi,⟨xb,xo,xc,xl⟩⟩:=x;obtain ⟨yk,yi,⟨yb,yo,yc,yl⟩⟩:=y;simp only [lu,aL.v] at e2 f2 E1 E2 r2;obtain ⟨xn,jo⟩:=qbr xl.length;obtain ⟨yn,ie⟩:=qbr yl.length;rw [jo] at e2 E2;rw [ie] at f2 E1 r2;clear fz qa kp RY g2 hx hy dR jo ie BL;have Jj:hb≠g:=fun e=>iv e.symm
   go_wp2_with fail;go_big_region
   go_wp2_with fail;go_roundg (n-d)
   case measure=>omega
   case rel=>exact ⟨d,swp H' b d,rfl,ω,Yk _,⟨DD.o,yZ.o.1,yZ.o.2,Ji.o⟩,(show ag _ from G2.o.drew)⟩
theorem adL (hb n g cap base:Nat) (kf pv:Value) (H:List (Hd α)) (hn:H.length=n) (h1:1<=n) (hJ:n<=4000000) (w:World) (hp:eV 194 197 w hb base kf (ψ g 0 n cap) pv H) (hH:bU H) :
  Calls prog 137 #[IS hb] w fun e w'=>e=χ (gt H 0).v/\(∃ H',(gt H 0::H').Perm H/\bU H'/\H'.length=n-1/\eV 194 197 w' hb base kf (ψ g 0 (n-1) cap) pv H')/\Gx (fun q=>q=hb\/q=g) w w':=by
 obtain ⟨hh,hr,ne⟩:=hp;have iv:g≠hb:=ne g rfl;have Jj:hb≠g:=fun e=>iv e.symm
 obtain ⟨m,hm⟩:∃ m:Nat,m=n-1:=⟨_,rfl⟩;have w1:IntKind.i64.wrap ((n:Int)-1)=(m:Int):=by rw [Δ];omega
 have bG:hb<w.heap.size:=ak hh;have gl:g<w.heap.size:=(fG hr hn).2.2.1;have yX:=(fG hr hn).2.1;have mn:m<n:=ω;have mc:m<=cap:=ω;have cz:¬ cap=0:=ω;have HB:ag _:=hh;have R0:ag _:=hr;have LN:ag (H.length=n):=hn;have MN:ag (m=n-1):=hm;have Sr:w.cell? (φ hb 1)=some (ψ g 0 n cap):=aj hh rfl;obtain ⟨x,hx⟩:=qbr (gt H 0);obtain ⟨y,hy⟩:=qbr (gt H m);have HH:ag (bU H):=hH;have SK:ag (∀ (H:List (Hd α)) (W:World),H.length=m->eV 194 197 W hb base kf (ψ g 0 m cap) pv H->pP H 0->Calls prog 152 #[IS hb,By 0] W fun e w'=>e=π #[]/\(∃ H',H'.Perm H/\bU H'/\HR 197 w' base (ψ g 0 m cap) H')/\Gx (fun q=>q=g) W w'):=fun H W h1 h2 h3=>adK hb 0 m g cap base kf pv H h1 ω (Γ _) W h2 h3
 have XV:ag _:=hx;have YV:ag _:=hy;obtain ⟨xk,xi,⟨xb,xo,xc,xl⟩⟩:=x;obtain ⟨yk,yi,⟨yb,yo,yc,yl⟩⟩:=y;obtain ⟨xn,jo⟩:=qbr xl.length;obtain ⟨yn,ie⟩:=qbr yl.length;have XN:ag _:=jo;have YN:ag _:=ie;have dR:=(fG hr hn).2.2.2;obtain ⟨e0,e1,e2⟩:=dR 0 ω;rw [hx] at e0 e1 e2;simp only [qaR,qai,aL.v,jo] at e0 e1 e2;have RET:ag ((gt H 0).v=.agg #[BY xk,By (xi:Int),ψ xb xo xn xc]):=by show _=_;rw [XV.o,<-XN.o];rfl
 rw [RET.o];clear hh hr ne hn dR hx hy jo ie hH hm;go_enter func137,ntmps137;go_wp2_with fail;obtain ⟨N,hN⟩:=qbr w.heap.size;obtain ⟨W2,nI⟩:=qbr ((w.alloc (.cells #[BY 0,By 0,.slice none 0 0] 197)).alloc (.cells #[BY xk,By (xi:Int),ψ xb xo xn xc] 197));have G2:ag (Gw w W2):=by rw [<-nI];exact ((Gw.refl w).alloc _ _).alloc _ _
 have b0:W2.heap[N]?=some (.cells #[BY 0,By 0,.slice none 0 0] 197 (0,0)):=by rw [<-nI,<-hN];exact (qap _ _ ε).trans (Ω w _)
 have b1:W2.heap[N+1]?=some (.cells #[BY xk,By (xi:Int),ψ xb xo xn xc] 197 (0,0)):=by rw [<-nI,<-hN];have:=Ω (w.alloc (.cells #[BY 0,By 0,.slice none 0 0] 197)) (.cells #[BY xk,By (xi:Int),ψ xb xo xn xc] 197);simpa using this
 have B0:ag _:=b0;have B1:ag _:=b1;rw [nI,hN];have R2:=vV R0.o G2.o;have fX:=(G2.o.below.block _ bG).trans HB.o;have n1:N+1<W2.heap.size:=ak b1;obtain ⟨W3,W4,E3,E4,q1,q2,Ss,g4⟩:=adb R2 LN.o h1 MN.o iv fX YV.o;have Db:ag _:=Ss;have G4:ag (Gx (fun q=>q=hb\/q=g) w W4):=(G2.o.gx _).trans g4 (fun q hq=>.inl hq)
 have Dc:ag (N+1<W4.heap.size/\W4.heap[N]?=some (.cells #[BY 0,By 0,.slice none 0 0] 197 (0,0))/\W4.heap[N+1]?=some (.cells #[BY xk,By (xi:Int),ψ xb xo xn xc] 197 (0,0))) :=
  ⟨Θ n1 g4.size,(g4.block _ ω ω).trans b0,(g4.block _ n1 ω).trans b1⟩
 have c2:W2.cell? (φ hb 1)=some (ψ g 0 n cap):=aj fX rfl;have dR:=(fG R2 LN.o).2.2.2;have fz:=(fG R2 LN.o).1;obtain ⟨f0,f1,f2⟩:=dR m mn;obtain ⟨d0,d1,d2⟩:=dR 0 ω;rw [XV.o] at d0 d1 d2;rw [YV.o] at f0 f1 f2;simp only [qaR,qai,aL.v,XN.o] at d0 d1 d2;simp only [lu,qai,aL.v,YN.o] at f2 E3;have Sn:=fz 0;have So:=fz 1;have Sq:=fz 2;have gN:ag (g<N/\hb<N/\w.heap.size<=N):=⟨ω,ω,ω⟩;clear nI hN dR fz R2 fX b0 b1 g4 Ss e0 e1 e2 Sr;go_wp2_with fail;go_big_region;go_wp2_with fail;refine (SK.o (nz H) W4.drew (by rw [Ik,LN.o];exact MN.o.symm) ⟨Db.o.blk,Db.o.row,Db.o.ne⟩ (HH.o.cut (by rw [LN.o];exact h1))).mono ?_
 rintro ex u6 ⟨rfl,⟨H',p1,p2,p3⟩,g6⟩;have PF:ag ((gt H 0::H').Perm H/\bU H'/\H'.length=n-1):=⟨((List.Perm.cons _ p1).trans (acC H (by rw [LN.o];exact h1)).symm),p2,by have:=p1.length_eq;rw [Ik,LN.o] at this;exact this⟩
 have y8:Gx (fun q=>q=g) W4 u6:=⟨g6.os,g6.tape,g6.output,g6.size,g6.block⟩
 have ri:hb<W4.heap.size:=Θ bG G4.o.size;have m1:u6.heap[N+1]?=some (.cells #[BY xk,By (xi:Int),ψ xb xo xn xc] 197 (0,0)):=(y8.block _ Dc.o.1 (by have:=gN.o;omega)).trans Dc.o.2.2
 have m0:u6.heap[N]?=some (.cells #[BY 0,By 0,.slice none 0 0] 197 (0,0)):=(y8.block _ (by have:=Dc.o.1;omega) (by have:=gN.o;omega)).trans Dc.o.2.1
 have mb:u6.heap[hb]?=some (.cells #[kf,ψ g 0 m cap,pv] 194 (0,0)):=(y8.block _ ri Jj).trans Db.o.blk;have k0:=aj (o:=0) m1 rfl;have k1:=aj (o:=1) m1 rfl;have k2:=aj (o:=2) m1 rfl;have j0:=aj (o:=0) m0 rfl;have j1:=aj (o:=1) m0 rfl;have j2:=aj (o:=2) m0 rfl;have jf:=fun o=>bC (o:=o) m0
 have jf0:=jf 0;have jf1:=jf 1;have jf2:=jf 2;have aD:ag (∀ W9,((u6.setCell (φ N 0) (BY xk)).setCell (φ N 1) (By (xi:Int))).setCell (φ N 2) (ψ xb xo xn xc)=W9->(∃ H',(gt H 0::H').Perm H/\bU H'/\H'.length=n-1/\eV 194 197 W9 hb base kf (ψ g 0 (n-1) cap) pv H')/\Gx (fun q=>q=hb\/q=g) w W9):=fun W9 e9=>by
  have nw:w.heap.size<=N:=gN.o.2.2;have kp:∀ q,q≠N->W9.heap[q]?=u6.heap[q]?:=fun q hq=>by rw [<-e9,qac _ _ _ _ hq,qac _ _ _ _ hq,qac _ _ _ _ hq]
  refine ⟨⟨H',PF.o.1,PF.o.2.1,PF.o.2.2,⟨?_,?_,fun q hq=>by cases hq;exact iv⟩⟩,?_⟩
  ·rw [<-MN.o];exact (kp hb (by have:=gN.o;omega)).trans mb
  ·rw [<-MN.o];exact lX p3 fun q hq=>kp q (by cases hq;show g≠N;have:=gN.o;omega)
  ·rw [<-e9]
   exact ((((G4.o.trans y8 (fun q hq=>.inl (.inr hq))).set (.inr nw) _ _).set (.inr nw) _ _).set (.inr nw) _ _)
 obtain ⟨W9,e9⟩:=qbr (((u6.setCell (φ N 0) (BY xk)).setCell (φ N 1) (By (xi:Int))).setCell (φ N 2) (ψ xb xo xn xc));have FF:ag _:=aD.o W9 e9;have b9:W9.heap[N]?=some (.cells #[BY xk,By (xi:Int),ψ xb xo xn xc] 197 (0,0)):=by rw [<-e9];have:=nE (o:=2) (nE (o:=1) (nE (o:=0) m0 (BY xk)) (By (xi:Int))) (ψ xb xo xn xc);simpa using this
 have y0:=aj (o:=0) b9 rfl;have y1:=aj (o:=1) b9 rfl;have y2:=aj (o:=2) b9 rfl;clear aD m0 m1 mb p1 p2 p3 g6 y8 jf b9 SK;go_wp2_with fail;refine bodyPost_ret (v:=.agg #[BY xk,By (xi:Int),ψ xb xo xn xc]) (by simp [results,results137,go_sem,y0,y1,y2]) rfl ⟨rfl,FF.o⟩
theorem St:(prog.info? 197).map (fun i=>(i.zero,i.size,i.bytes))=some (some (.agg #[BY 0,By 0,.slice none 0 0]),3,40):=η
theorem Su (hb n base K i:Nat) (hv pv:Value) (H:List (Hd ah)) (s:aL ah) (key:ah->Int) (FK:C4 ix key ah.ok K) (hn:H.length=n) (hJ:n<=3000000) (hi:i<=4000000) (w:World) (hp:eV 194 197 w hb base (.func (.func K) #[] #[]) hv pv H) (nG:base<=hb+1) (hH:bU H) (sl:s.l.length<=4000000) (ao:Option Addr) (sc:Nat) (hs:0<s.l.length->ao=some (φ s.b s.off)/\sc=s.c/\s.l.length<=s.c/\s.b<w.heap.size) (El:iy w s) (jq:∀ x∈s.l,ah.ok x) :
  Calls prog 136 #[IS hb,By (i:Int),.slice ao s.l.length sc] w fun e w'=>e=π #[]/\(∃ aZ H',H'.Perm (H++eK key i s)/\bU H'/\eV 194 197 w' hb base (.func (.func K) #[] #[]) aZ pv H'/\(∀ q,aZ.ownBlock=some q->hv.ownBlock=some q\/w.heap.size<=q))/\Gx (fun q=>q=hb\/hv.ownBlock=some q) w w':=by
 obtain ⟨sb,so,scc,l⟩:=s;cases l with
 | nil =>
  have HP:ag _:=hp;have HH:ag (bU H):=hH;clear hp hH FK El jq hs;dsimp only [List.length_nil];go_enter func136,ntmps136;go_wp2_with fail;refine bodyPost_ret (results_none rfl _ _ _) rfl ?_;exact ⟨rfl,⟨hv,H,by simp [eK],HH.o,HP.o,fun q hq=>.inl hq⟩,Gx.refl _ _⟩
 | cons x l =>
  obtain ⟨Dd,rF,bL,rE⟩:=hs ε;dsimp only at Dd rF bL rE sl El jq ⊢;subst Dd rF;clear hs;obtain ⟨m,hm⟩:=qbr ((x::l).length);rw [hm];have m0:0<m:=by rw [<-hm];simp
  have ms:m<=4000000:=by rw [<-hm];exact sl
  have OK:ag _:=jq x (qat ..);have Sv:ag _:=El;obtain ⟨hh,hr,ne⟩:=hp;have bG:hb<w.heap.size:=ak hh;have HB:ag _:=hh;have R0:ag _:=hr;have NE:ag _:=ne;have LN:ag _:=hn;have HH:ag (bU H):=hH;have XH:ag ((⟨key x,i,⟨sb,so,sc,x::l⟩⟩:Hd ah)=⟨key x,i,⟨sb,so,sc,x::l⟩⟩):=rfl;have HD:ag (eK key i (⟨sb,so,sc,x::l⟩:aL ah)=[⟨key x,i,⟨sb,so,sc,x::l⟩⟩]):=rfl;obtain ⟨hx,HX⟩:∃ h:Hd ah,ag (h=⟨key x,i,⟨sb,so,sc,x::l⟩⟩):=⟨_,rfl⟩;obtain ⟨ii,aK,hz,cF,aJ⟩:=info_parts St;obtain ⟨kx,Sw⟩:=qbr (key x);have KX:ag _:=Sw;have NW:ag (∀ W:World,∀ j u,(cW hx)[j]?=some u->(W.alloc (.cells #[BY kx,By (i:Int),ψ sb so m sc] 197)).cell? ((⟨W.heap.size,0,none⟩:Addr).add j)=some u):=fun W=>by
   have:=Rr 197 W hx
   rw [HX.o] at this ⊢;rw [<-KX.o,<-hm];exact this
  have KC:ag (∀ W:World,Calls prog K #[ix x] W fun e w'=>e=χ (BY kx)/\Gw W w'):=fun W=>by
   have:=FK.tells W x OK.o
   rw [KX.o] at this;exact this
  have wG:=FK.enter;have RS:ag (∀ (m:Nat) (g cap:Nat) (H:List (Hd ah)) (W:World),H.length=m+1->m+1<=4000000->eV 194 197 W hb base (.func (.func K) #[] #[]) (ψ g 0 (m+1) cap) pv H->nu H m->Calls prog 151 #[IS hb,By (m:Int)] W fun e w'=>e=π #[]/\(∃ H',H'.Perm H/\bU H'/\HR 197 w' base (ψ g 0 (m+1) cap) H')/\Gx (fun q=>q=g) W w'):=fun m g cap H W h1 h2 h3 h4=>adJ hb m (m+1) g cap base _ pv H h1 h2 ω W h3 h4
  have c0:w.cell? (φ hb 0)=some (.func (.func K) #[] #[]):=aj hh rfl;have c1:w.cell? (φ hb 1)=some hv:=aj hh rfl;have oP:ag (∀ (W:World) (v':Value) (w7:World),Gw w W->w7.ownsRow base 197 3 v' (n+1) (H.flatMap cW++cW hx)->(W.alloc (.cells #[BY kx,By (i:Int),ψ sb so m sc] 197)).grownBy w7 hv.ownBlock->(v'.ownBlock=hv.ownBlock\/v'.ownBlock=some (W.heap.size+1)) ->
    (w7.heap[hb]?=some (.cells #[.func (.func K) #[] #[],hv,pv] 194 (0,0))/\hb<w7.heap.size)/\eV 194 197 (w7.setCell (φ hb 1) v') hb base (.func (.func K) #[] #[]) v' pv (H++[hx])/\Gx (fun q=>q=hb\/hv.ownBlock=some q) w (w7.setCell (φ hb 1) v')/\(∀ q,v'.ownBlock=some q->hv.ownBlock=some q\/w.heap.size<=q)):=fun W v' w7 gW r1 r2 r4=>by
   have b7:w7.heap[hb]?=some (.cells #[.func (.func K) #[] #[],hv,pv] 194 (0,0)):=(r2.block hb (by have:=gW.size;simp;omega) (fun e=>NE.o hb e.symm rfl)).trans ((qap _ _ (Θ bG gW.size)).trans ((gW.below.block hb bG).trans HB.o))
   have nv:∀ q,v'.ownBlock=some q->hv.ownBlock=some q\/w.heap.size<=q:=fun q hq=>by
    rcases r4 with e | e
    ·rw [e] at hq;exact .inl hq
    ·rw [e] at hq;cases hq;have:=gW.size;exact .inr ω
   have ne':∀ q,v'.ownBlock=some q->q≠hb:=fun q hq=>by
    rcases nv q hq with e | e
    ·exact NE.o q e
    ·omega
   refine ⟨⟨b7,ak b7⟩,⟨nE b7 _,?_,ne'⟩,?_,nv⟩
   ·refine lX (Rp (by rw [LN.o];exact r1)) fun q hq=>qac _ _ _ _ (ne' q hq)
   ·exact (((gW.alloc _ _).gx _).grown r2 (fun q hq=>.inl (.inr hq))).set (.inl (Or.inl rfl)) _ _
  have OW:ag (∀ W:World,Gw w W->∀ o:Obj,(W.alloc o).ownsRow base 197 3 hv n (H.flatMap cW)):=fun W gW o=>by
   have:=vV R0.o gW
   unfold HR at this;rw [LN.o] at this;exact this.alloc _
  have RI:ag (nu (H++[hx]) n):=by
   have:=HH.o.app hx
   rw [LN.o] at this;exact this
  have aD:ag (∀ (b8 cap8:Nat) (W8 u9:World) (H':List (Hd ah)),eV 194 197 W8 hb base (.func (.func K) #[] #[]) (ψ b8 0 (n+1) cap8) pv (H++[hx])->Gx (fun q=>q=hb\/hv.ownBlock=some q) w W8->(∀ q,(Value.slice (some (φ b8 0)) (n+1) cap8).ownBlock=some q->hv.ownBlock=some q\/w.heap.size<=q)->H'.Perm (H++[hx])->bU H'->HR 197 u9 base (ψ b8 0 (n+1) cap8) H'->Gx (fun q=>q=b8) W8 u9 ->
    (∃ aZ H',H'.Perm (H++[hx])/\bU H'/\eV 194 197 u9 hb base (.func (.func K) #[] #[]) aZ pv H'/\(∀ q,aZ.ownBlock=some q->hv.ownBlock=some q\/w.heap.size<=q))/\Gx (fun q=>q=hb\/hv.ownBlock=some q) w u9):=fun b8 cap8 W8 u9 H' h1 h2 h3 h4 h5 h6 h7=>by
   have tX:=h1.ne b8 rfl;refine ⟨⟨_,H',h4,h5,⟨(h7.block hb (ak h1.blk) (fun e=>tX e.symm)).trans h1.blk,h6,h1.ne⟩,h3⟩,h2.trans h7 (fun q hq=>?_)⟩
   have tU:q=b8:=hq;subst tU;rcases h3 q rfl with e | e
   ·exact .inl (.inr e)
   ·exact .inr e
  rw [show eK key i (⟨sb,so,sc,x::l⟩:aL ah)=[hx] by rw [HX.o];rfl]
  obtain ⟨xk,xv,xg⟩:=x;simp only [ix] at KC;obtain ⟨d0,d1,d2⟩:w.cell? (φ sb so)=some (BY xk)/\w.cell? (φ sb (so+1))=some (BY xv)/\w.cell? (φ sb (so+2))=some (.bool xg):=by
   have:=Sv.o 0 _ rfl
   simpa using this
  have HL:ag ((H++[hx]).length=n+1):=by show _=_;rw [Ψ,LN.o];rfl
  clear hh hr ne hn hH El jq sl Sw Sv R0 NE;go_enter func136,ntmps136;have t0:((m:Int) == 0)=false:=by simp;omega
  have nl1:IntKind.i64.wrap (((n+1:Nat):Int)-1)=(n:Int):=by rw [Δ];omega
  have nl2:IntKind.i64.wrap ((n:Int)+1-1)=(n:Int):=by rw [Δ];omega
  clear hm;go_wp2_with fail;go_region_law (first
   | (go_simp;refine (KC.o _).mono ?_;rintro e w4 ⟨rfl,g4⟩;have G4:ag (Gw w w4):=((Gw.refl w).drew.trans g4);have k4:w4.cell? (φ hb 1)=some hv:=(g4.cell _ _ bG).trans c1;have l4:hb<w4.heap.size:=Θ bG g4.size;clear g4)
   | (refine Jb _ rfl (.tmp 13) (.tmp 25) 192 rfl base 197 ii (.agg #[BY 0,By 0,.slice none 0 0]) 3 40 underlying192 aK hz cF aJ rfl γ hv n (H.flatMap cW) κ (OW.o w4 G4.o _) ⟨w4.heap.size,0,none⟩ 1 1 (cW hx) κ rfl (NW.o w4) (Rm hx) θ ω (Φ (show base<=w4.heap.size by omega) ((Gw.refl w4).alloc _ _).size) ?_;intro v' w7 r1 r2 r3 r4;obtain ⟨b8,cap8,ev,_,_,_⟩:=cJ r1 (by simpa using r3);obtain ⟨⟨B7,l7⟩,P7,G7,N7⟩:=oP.o w4 v' w7 G4.o r1 r2 (by simpa using r4);have k7:=aj (o:=1) B7 rfl;have f7:=bC (o:=1) B7;have P8:ag _:=P7;have G8:ag _:=G7;have N8:ag _:=N7;clear B7 P7 G7 N7 r1 r2 r3 r4;subst ev))
  all_goals go_wp2_with fail
  all_goals refine (RS.o n b8 cap8 (H++[hx]) _ HL.o ω P8.o RI.o).mono ?_
  all_goals rintro ex u9 ⟨rfl,⟨H',p1,p2,p3⟩,g9⟩
  all_goals have FF:ag _:=aD.o b8 cap8 _ u9 H' P8.o G8.o N8.o p1 p2 p3 g9
  all_goals clear p1 p2 p3 g9
  all_goals go_wp2_with fail
  all_goals go_end0
  all_goals exact ⟨rfl,FF.o⟩
theorem adM (hb K:Nat) (hv pv:Value) (H P:List (Hd ah)) (key:ah->Int) (FK:C4 ix key ah.ok K) (hJ:H.length<=3000000) (hp2:P.length<=3000000) (w:World) (eX:ly 194 197 w hb (.func (.func K) #[] #[]) hv pv H P) (hH:bU H)
  (me:∀ h∈H,(∃ x t,h.s.l=x::t/\h.k=key x)/\h.s.b<hb/\h.s.l.length<=h.s.c/\h.s.l.length<=4000000/\h.i<=4000000/\iy w h.s/\∀ x∈h.s.l,ah.ok x) :
  Calls prog 123 #[IS hb] w fun e w'=>yW 194 197 w hb K 3 hv pv H key ix (.agg #[BY 0,BY 0,.bool false]) e w':=by
 by_cases h0:H=[]
 ·subst h0
  have bG:hb<w.heap.size:=ak eX.hp.blk;have c1:w.cell? (φ hb 1)=some hv:=aj eX.hp.blk rfl;rcases Ru eX.hp.row with ⟨e,_⟩ | ⟨g,cap,e,oQ⟩
  all_goals
   subst e;clear eX hH me FK;go_enter func123,ntmps123;go_wp2_with fail;refine bodyPost_ret (v:=.tuple #[.agg #[BY 0,BY 0,.bool false],.bool false]) (by simp [results,results123,go_sem]) rfl ?_
   exact ⟨fun _=>⟨rfl,by first | exact ((Gw.refl w).alloc _ _).alloc _ _ | exact (((Gw.refl w).alloc _ _).alloc _ _).setCell ε _⟩,fun h=>absurd rfl h⟩
 ·have pF:0<H.length:=qbi.2 h0
  have gm:gt H 0∈H:=by
   have:gt H 0=H[0]:=by simp [gt,List.getD,pF]
   rw [this];exact qaz _
  have ME:ag _:=me;obtain ⟨⟨x,t,sN,rG⟩,Sx,xcl,_,_,xel,xok⟩:=me (gt H 0) gm;obtain ⟨g,cap,Sy,yX,gb,gl⟩:=Ro eX.hp.row pF;obtain ⟨n,hn⟩:=qbr H.length;have LN:ag _:=hn;rw [hn] at Sy yX pF hJ;subst Sy;have ST:ag _:=eX;have HH:ag _:=hH;have bG:hb<w.heap.size:=ak eX.hp.blk;have c1:w.cell? (φ hb 1)=some (ψ g 0 n cap):=aj eX.hp.blk rfl;have c2:w.cell? (φ hb 2)=some pv:=aj eX.hp.blk rfl;have fr2:w.frozen? (φ hb 2)=false:=bC eX.hp.blk;obtain ⟨y,hy⟩:=qbr (gt H 0);have YV:ag _:=hy;obtain ⟨e0,e1,e2⟩:=(fG eX.hp.row hn).2.2.2 0 pF;rw [hy] at e0 e1 e2 sN rG;obtain ⟨yk,yi,⟨yb,yo,yc,yl⟩⟩:=y;dsimp only at sN rG;obtain ⟨yn,ie⟩:=qbr yl.length;have YN:ag _:=ie;simp only [Nat.zero_mul,Nat.zero_add,aL.v,ie] at e0 e1 e2;have YL:ag _:=sN;have YK:ag _:=rG;have tn:((n:Int) == 0)=false:=by simp;omega
  obtain ⟨po,pc,SL,R0,OB⟩:∃ (po:Option Addr) (pc:Nat),(∀ W:World,(Instr.slice 192 pv none (some (By 0)) none).run prog W=.ok (.slice po 0 pc) W)/\HR 197 w (hb+1) (.slice po 0 pc) ([]:List (Hd ah))/\(Value.slice po 0 pc).ownBlock=pv.ownBlock:=by
   rcases Ru eX.pr with ⟨e,_⟩ | ⟨gp,cp,e,dA⟩
   ·subst e
    exact ⟨none,0,fun W=>η,IE _ _ _,rfl⟩
   ·have pr:=eX.pr
    subst e;refine ⟨some ⟨gp,0,none⟩,cp,fun W=>?_,Rq pr rfl 0 (Γ _),rfl⟩
    have c0:(0:Int)<=(cp:Int):=ω;by_cases z:cp=0
    ·subst z;simp [go_sem,Instr.slice]
    ·simp [go_sem,Instr.slice]
  obtain ⟨N5,Sz⟩:∃ N,N=w.heap.size+1:=⟨_,rfl⟩;obtain ⟨W5,E5⟩:=qbr ((w.alloc (.cells #[BY 0,BY 0,.bool false] 71)).alloc (.cells #[BY yk,By (yi:Int),ψ yb yo yn yc] 197));have G5:Gw w W5:=by rw [<-E5];exact ((Gw.refl w).alloc _ _).alloc _ _
  have B5:W5.heap[N5]?=some (.cells #[BY yk,By (yi:Int),ψ yb yo yn yc] 197 (0,0)):=by
   rw [<-E5,Sz]
   first
    | exact Ω _ _
    | (have:=Ω (w.alloc (.cells #[BY 0,BY 0,.bool false] 71)) (.cells #[BY yk,By (yi:Int),ψ yb yo yn yc] 197);simpa using this)
  have B2:W5.heap[w.heap.size]?=some (.cells #[BY 0,BY 0,.bool false] 71 (0,0)):=by rw [<-E5];exact (qap _ _ ε).trans (Ω w _)
  have n5:N5<W5.heap.size:=ak B5;have dZ:W5.heap[hb]?=some (.cells #[.func (.func K) #[] #[],ψ g 0 n cap,pv] 194 (0,0)):=(G5.below.block _ bG).trans ST.o.hp.blk;obtain ⟨W6,E6⟩:=qbr (W5.setCell (φ hb 2) (.slice po 0 pc));have A0:ag (iM 194 197 w W6 hb g cap (.func (.func K) #[] #[]) pv H yk n (.slice po 0 pc) H [] W6):=by
   have tX:∀ q,q≠hb->W6.heap[q]?=W5.heap[q]?:=fun q hq=>by rw [<-E6];exact qac _ _ _ _ hq
   have s6:W6.heap.size=W5.heap.size:=(by rw [<-E6];simp [World.setCell]);have iv:g≠hb:=ST.o.hp.ne g rfl;have SJ:=(oI ST.o.hp.row g rfl).2;have plt:∀ q,pv.ownBlock=some q->q<w.heap.size:=fun q hq=>(oI ST.o.pr q hq).2
   have pne:=ST.o.pne;refine ⟨⟨⟨?_,?_,ST.o.hp.ne⟩,?_,fun q hq tU=>ST.o.ap q hq (by rw [<-OB];exact tU)⟩,LN.o,ε,(fun p hp=>by cases hp),HH.o,fun q hq=>.inl (by rw [<-OB];exact hq),fun _ _ _=>rfl,?_,⟨by rw [s6];exact G5.size,Yk _⟩,⟨SJ,bG,iv,plt⟩⟩
   ·rw [<-E6];exact nE dZ _
   ·exact lX ST.o.hp.row fun q hq=>by cases hq;exact (tX g iv).trans (G5.below.block g SJ)
   ·exact lX R0 fun q hq=>by rw [OB] at hq;exact (tX q (pne q hq)).trans (G5.below.block q (plt q hq))
   ·rw [<-E6];exact (G5.gx _).set (.inl (Or.inl rfl)) _ _
  have BX:ag (∀ W:World,(∀ q,w.heap.size<=q->q<W6.heap.size->W.heap[q]?=W6.heap[q]?)->W.heap[N5]?=some (.cells #[BY yk,By (yi:Int),ψ yb yo yn yc] 197 (0,0))/\W.heap[w.heap.size]?=some (.cells #[BY 0,BY 0,.bool false] 71 (0,0))):=fun W hW=>by
   have s6:W6.heap.size=W5.heap.size:=(by rw [<-E6];simp [World.setCell]);have tX:∀ q,q≠hb->W6.heap[q]?=W5.heap[q]?:=fun q hq=>by rw [<-E6];exact qac _ _ _ _ hq
   exact ⟨(hW N5 ω ω).trans ((tX N5 ω).trans B5),(hW _ (Yk _) ω).trans ((tX _ ω).trans B2)⟩
  have W6L:ag (w.heap.size<W6.heap.size):=by have s6:W6.heap.size=W5.heap.size:=(by rw [<-E6];simp [World.setCell]);show _<_;omega
  have k1:W5.cell? (φ hb 1)=some (ψ g 0 n cap):=aj dZ rfl;have k2:W5.cell? (φ hb 2)=some pv:=aj dZ rfl;have k3:W5.frozen? (φ hb 2)=false:=bC dZ;have l5:hb<W5.heap.size:=ak dZ;have Jl:ag (∀ n1 bP H1 P1 wr,iM 194 197 w W6 hb g cap (.func (.func K) #[] #[]) pv H yk n1 bP H1 P1 wr->(n1=0\/(gt H1 0).k≠yk)->0<P1.length/\∀ x∈H1,x.k≠yk):=fun n1 bP H1 P1 wr h ex=>h.exit HH.o (by rw [LN.o];exact pF) (by rw [YV.o]) ex
  have SM:ag (∀ (n1:Nat) (bP:Value) (H1 P1:List (Hd ah)) (wr:World),iM 194 197 w W6 hb g cap (.func (.func K) #[] #[]) pv H yk n1 bP H1 P1 wr->1<=n1->n1<=3000000->Calls prog 137 #[IS hb] wr fun e w'=>e=χ (gt H1 0).v/\(∃ H',(gt H1 0::H').Perm H1/\bU H'/\H'.length=n1-1/\eV 194 197 w' hb (hb+1) (.func (.func K) #[] #[]) (ψ g 0 (n1-1) cap) bP H')/\Gx (fun q=>q=hb\/q=g) wr w'):=fun n1 bP H1 P1 wr h h1 h2=>adL hb n1 g cap (hb+1) _ bP H1 h.ln h1 ω wr h.st.hp h.ho
  have Jm:ag (∀ n1 bP H1 P1 wr,iM 194 197 w W6 hb g cap (.func (.func K) #[] #[]) pv H yk n1 bP H1 P1 wr->P1.length+n1=n):=fun n1 bP H1 P1 wr h=>by
   have:=h.pm.length_eq
   rw [Ψ,LN.o,h.ln] at this;exact this
  obtain ⟨ii,aK,hz,cF,aJ⟩:=info_parts St;subst Sz;clear eX hH me h0 hn hy ie sN rG gm R0 OB B5 dZ G5 n5;go_enter func123,ntmps123;go_upto_block 0 with fail;clear E5 E6 k1 k2 k3 l5 SL c1 c2 fr2 e0 e1 e2 tn;go_cut [] from 29 to 57 (fun wc=>∃ (n1:Nat) (bP:Value) (H1 P1:List (Hd ah)),ag (iM 194 197 w W6 hb g cap (.func (.func K) #[] #[]) pv H yk n1 bP H1 P1 wc)/\ag (0<P1.length/\∀ x∈H1,x.k≠yk))
  case first=>as_aux_lemma =>
   go_wp2_with fail;go_loopg [] n (fun gg wr=>∃ (n1:Nat) (bP:Value) (H1 P1:List (Hd ah)),n1<=gg/\n1<=n/\ag (iM 194 197 w W6 hb g cap (.func (.func K) #[] #[]) pv H yk n1 bP H1 P1 wr))
   case atStart=>exact ⟨n,.slice po 0 pc,H,[],Yk _,Yk _,A0⟩
   case round =>
    obtain ⟨n1,bP,H1,P1,ng,nn,AA⟩:=hrel;obtain ⟨wS,aS⟩:=qbs wr;subst aS;have c1:wS.cell? (φ hb 1)=some (ψ g 0 n1 cap):=aj AA.o.st.hp.blk rfl;have c2:wS.cell? (φ hb 2)=some bP:=aj AA.o.st.hp.blk rfl;have f0:=aj (o:=0) ((BX.o _ AA.o.bx).1) rfl;have aiv:n1<=cap:=(fG AA.o.st.hp.row AA.o.ln).2.1;by_cases p0:0<n1
    ·have p0':decide ((0:Int)<(n1:Int))=true:=(by simpa using p0);obtain ⟨z,iZ⟩:=qbr (gt H1 0);have ZV:ag _:=iZ;obtain ⟨d0,d1,d2⟩:=(fG AA.o.st.hp.row AA.o.ln).2.2.2 0 p0;rw [iZ] at d0 d1 d2;simp only [qaR,qai] at d0 d1 d2;have NW:=fun W=>Rr 197 W z
     obtain ⟨zk,zi,⟨zb,zo,zc,zl⟩⟩:=z;obtain ⟨zn,rL⟩:=qbr zl.length;have ZN:ag _:=rL;dsimp only at d0;by_cases zy:zk=yk
     ·have zy':(zk == yk)=true:=(by simpa using zy);obtain ⟨m1,SP⟩:∃ m,m=n1-1:=⟨_,rfl⟩;have PO:ag (∀ k:Nat,Calls prog 137 #[IS hb] (wS.drewN k) fun e w'=>e=χ (.agg #[BY zk,By (zi:Int),ψ zb zo zn zc])/\(∃ H',(gt H1 0::H').Perm H1/\bU H'/\H'.length=m1/\eV 194 197 w' hb (hb+1) (.func (.func K) #[] #[]) (ψ g 0 m1 cap) bP H')/\Gx (fun q=>q=hb\/q=g) wS w'):=fun k=>by
       have:=SM.o n1 bP H1 P1 (wS.drewN k) (AA.o.drewN k) ω ω
       rw [ZV.o,<-SP] at this;rw [ZV.o,<-ZN.o];exact this.mono fun e w' ⟨q1,q2,q3⟩=>⟨q1,q2,⟨q3.os,q3.tape,q3.output,q3.size,q3.block⟩⟩
      have oP:ag (∀ (H2:List (Hd ah)) (w4:World) (v':Value) (w7:World),(gt H1 0::H2).Perm H1->bU H2->H2.length=m1->eV 194 197 w4 hb (hb+1) (.func (.func K) #[] #[]) (ψ g 0 m1 cap) bP H2->Gx (fun q=>q=hb\/q=g) wS w4->w7.ownsRow (hb+1) 197 3 v' (P1.length+1) (P1.flatMap cW++cW ⟨zk,zi,⟨zb,zo,zc,zl⟩⟩)->(w4.alloc (.cells #[BY zk,By (zi:Int),ψ zb zo zn zc] 197)).grownBy w7 bP.ownBlock->(v'.ownBlock=bP.ownBlock\/v'.ownBlock=some (w4.heap.size+1))->w7.heap[hb]?=some (.cells #[.func (.func K) #[] #[],ψ g 0 m1 cap,bP] 194 (0,0))/\iM 194 197 w W6 hb g cap (.func (.func K) #[] #[]) pv H yk m1 v' H2 (P1++[gt H1 0]) (w7.setCell (φ hb 2) v')):=fun H2 w4 v' w7 a1 a2 a3 a4 a5 a6 a7 a8=>AA.o.step _ (by rw [ZV.o];exact zy) a1 a2 a3 a4 a5 (by rw [ZV.o];exact a6) a7 a8
      have PR:ag (∀ (H2:List (Hd ah)) (w4:World),eV 194 197 w4 hb (hb+1) (.func (.func K) #[] #[]) (ψ g 0 m1 cap) bP H2->Gx (fun q=>q=hb\/q=g) wS w4->∀ o:Obj,(w4.alloc o).ownsRow (hb+1) 197 3 bP P1.length (P1.flatMap cW)):=fun H2 w4 m4 g4 o=>by
       have r:HR 197 w4 (hb+1) bP P1:=ac8 AA.o.st.pr g4 (fun q hq e=>by
        rcases e with e | e
        ·exact AA.o.st.pne q hq e
        ·exact AA.o.st.ap q (by rw [e];rfl) hq)
       exact World.ownsRow.alloc r _
      have NWH:ag (∀ W:World,∀ j u,(cW (⟨zk,zi,⟨zb,zo,zc,zl⟩⟩:Hd ah))[j]?=some u->(W.alloc (.cells #[BY zk,By (zi:Int),ψ zb zo zn zc] 197)).cell? ((⟨W.heap.size,0,none⟩:Addr).add j)=some u):=fun W=>by
       have:=NW W
       simp only [rL] at this;exact this
      have pl:=Jm.o _ _ _ _ _ AA.o;have plb:P1.length<=3000000:=ω;have ml:m1<n1:=ω;clear pl NW iZ rL d1 d2 zy SP;go_wp2_with fail;go_quiet (fail);go_wp2_with fail;go_region_law (first
       | (go_simp;refine (PO.o _).mono ?_;rintro e w4 ⟨rfl,⟨H2,q1,q2,q3,q4⟩,g4⟩;have Q1:ag _:=q1;have Q2:ag _:=q2;have Q3:ag _:=q3;have Q4:ag _:=q4;have SU:ag _:=g4;have k4:=aj (o:=2) q4.blk rfl;have l4:hb<w4.heap.size:=ak q4.blk;clear q1 q2 q3 q4 g4)
       | (refine Jb _ rfl (.tmp 51) (.tmp 54) 192 rfl (hb+1) 197 ii (.agg #[BY 0,By 0,.slice none 0 0]) 3 40 underlying192 aK hz cF aJ rfl γ bP P1.length (P1.flatMap cW) κ (PR.o H2 w4 Q4.o SU.o _) ⟨w4.heap.size,0,none⟩ 1 1 (cW (⟨zk,zi,⟨zb,zo,zc,zl⟩⟩:Hd ah)) κ rfl (NWH.o w4) (Rm _) θ ω (Φ (show hb+1<=w4.heap.size by omega) ((Gw.refl w4).alloc _ _).size) ?_;intro v' w7 r1 r2 r3 r4;obtain ⟨b8,cap8,ev,_,_,_⟩:=cJ r1 (by simpa using r3);obtain ⟨B7,A7⟩:=oP.o H2 w4 v' w7 Q1.o Q2.o Q3.o Q4.o SU.o r1 r2 (by simpa using r4);have k7:=aj (o:=2) B7 rfl;have f7:=bC (o:=2) B7;have l7:=ak B7;have A8:ag _:=A7;clear B7 A7 r1 r2 r3 r4;subst ev))
      all_goals go_wp2_with fail
      all_goals go_roundg m1
      all_goals first
       | (case measure=>omega)
       | (case rel=>exact ⟨m1,_,H2,P1++[gt H1 0],Yk _,ω,(show ag _ from A8.o)⟩)
     ·have zy':(zk == yk)=false:=(by simpa using zy);have EX:ag _:=Jl.o _ _ _ _ _ AA.o (.inr (by rw [ZV.o];exact zy))
      clear NW iZ rL d1 d2 zy;go_wp2_with fail;go_quiet (fail);go_wp2_with fail;go_meet
      case rel=>exact ⟨n1,bP,H1,P1,(show ag _ from by first | exact AA.o.drew | exact AA.o.drewN _),EX⟩
    ·have p0':decide ((0:Int)<(n1:Int))=false:=(by simp;omega);have EX:ag _:=Jl.o _ _ _ _ _ AA.o (.inl ω);go_wp2_with fail;go_quiet (fail);go_wp2_with fail;go_meet
     case rel=>exact ⟨n1,bP,H1,P1,(show ag _ from by first | exact AA.o.drew | exact AA.o.drewN _),EX⟩
  case rest=>as_aux_lemma =>
   obtain ⟨n1,bP,H1,P1,AA,EX⟩:=hcut;obtain ⟨wA,hwA⟩:=qbs wc;subst hwA;clear Jl SM;have SX:=Jm.o _ _ _ _ _ AA.o;clear Jm A0;obtain ⟨gp,cp,epv,De,_,_⟩:=Ro AA.o.st.pr EX.o.1;subst epv;obtain ⟨np,wH⟩:=qbr P1.length;have NP:ag _:=wH;have B0:ag (lE 194 197 w W6 hb g gp np cp 3 (.func (.func K) #[] #[]) (ψ g 0 n cap) pv key H1 P1 0 (ψ g 0 n1 cap) H1 wA):=by
    have:=AA.o.toB (sz:=3) (key:=key) (n:=n)
    rw [wH] at this;exact this
   have c2:wA.cell? (φ hb 2)=some (ψ gp 0 np cp):=(by rw [<-wH];exact aj AA.o.st.hp.blk rfl);rw [wH] at De SX;have np0:0<np:=(by have:=EX.o.1;rw [wH] at this;exact this);have y9:ag (∀ W,Gx (iw hb (ψ g 0 n cap) pv) w W->∀ q,q<hb->W.heap[q]?=w.heap[q]?):=fun W gg q hq=>gg.block q ω (fun e=>by have:=(ST.o.lt e).1;omega)
   have tY:ag (∀ (j:Nat) (aZ:Value) (Hc:List (Hd ah)) (wr Wq:World) (ao:Option Addr) (sc pm:Nat),lE 194 197 w W6 hb g gp np cp 3 (.func (.func K) #[] #[]) (ψ g 0 n cap) pv key H1 P1 j aZ Hc wr->j<np->Gw wr Wq->(gt P1 j).s.l.length=pm+1->(0<pm->ao=some (φ ((gt P1 j).s.b) ((gt P1 j).s.off+3))/\sc=(gt P1 j).s.c-1)->Calls prog 136 #[IS hb,By ((gt P1 j).i:Int),.slice ao pm sc] Wq fun e w'=>e=π #[]/\∃ nJ H2,lE 194 197 w W6 hb g gp np cp 3 (.func (.func K) #[] #[]) (ψ g 0 n cap) pv key H1 P1 (j+1) nJ H2 w'):=fun j aZ Hc wr Wq ao sc pm hB jl gq hl Dd=>by
    have vG:j<P1.length:=(by rw [NP.o];exact jl);have Df:gt P1 j∈H:=AA.o.pm.mem_iff.1 (qaq.2 (.inl (by
     have:gt P1 j=P1[j]:=by simp [gt,List.getD,vG]
     rw [this];exact qaz _)))
    obtain ⟨_,m1,m2,m3,m4,m5,m6⟩:=ME.o _ Df;have e1:(adv 3 (gt P1 j).s).l.length=pm:=(by show (gt P1 j).s.l.tail.length=pm;rw [List.length_tail,hl];rfl);have kb:Wq.heap[(gt P1 j).s.b]?=w.heap[(gt P1 j).s.b]?:=(gq.below.block _ (by have:=hB.sz;omega)).trans (y9.o wr hB.gx _ m1)
    have few:=hB.few;have h1l:H1.length=n1:=AA.o.ln;have:=Su hb Hc.length (hb+1) K (gt P1 j).i aZ _ Hc (adv 3 (gt P1 j).s) key FK rfl (by rw [NP.o] at few;omega) m4 Wq ⟨(gq.below.block _ (ak hB.st.hp.blk)).trans hB.st.hp.blk,vV hB.st.hp.row gq,hB.st.hp.ne⟩ (Yk _) hB.ho (by rw [e1];omega) ao sc (fun h0=>by
     rw [e1] at h0;obtain ⟨z1,z2⟩:=Dd h0;refine ⟨z1,z2,?_,?_⟩
     ·show (gt P1 j).s.l.tail.length<=(gt P1 j).s.c-1
      rw [List.length_tail];omega
     ·show (gt P1 j).s.b<_
      have:=gq.size;have:=hB.sz;omega) (m5.keep kb).adv (fun x hx=>m6 x (List.mem_of_mem_tail hx))
    rw [e1] at this;exact this.mono fun e w' ⟨q1,⟨nJ,H2,q2,q3,q4,q5⟩,q6⟩=>⟨q1,nJ,H2,hB.step vG gq q2 q3 q4 q5 q6⟩
   have PIN:ag (∀ p∈P1,p∈H):=fun p hp=>AA.o.pm.mem_iff.1 (qaq.2 (.inl hp))
   have Jn:ag _:=AA.o.pm;have PPK:ag _:=AA.o.pk;clear wH AA;go_wp2_with fail;go_loopg [63] np (fun gg s63 wr=>∃ (j:Nat) (aZ:Value) (Hc:List (Hd ah)),s63=By (j:Int)/\j<=np/\np-j<=gg/\ag (lE 194 197 w W6 hb g gp np cp 3 (.func (.func K) #[] #[]) (ψ g 0 n cap) pv key H1 P1 j aZ Hc wr))
   case atStart=>exact ⟨0,_,H1,rfl,Γ _,ω,B0⟩
   case round=>as_aux_lemma =>
    clear B0 c2;obtain ⟨j,aZ,Hc,rfl,jn,jg,NB⟩:=hrel;obtain ⟨wS,aS⟩:=qbs wr;subst aS;by_cases jl:j<np
    ·have vG:(j:Int)<(np:Int):=(by omega);obtain ⟨d0,d1,d2⟩:=(fG NB.o.st.pr NP.o).2.2.2 j jl;have jl2:j<P1.length:=(by rw [NP.o];exact jl);have Df:gt P1 j∈P1:=by
      have:gt P1 j=P1[j]:=by simp [gt,List.getD,jl2]
      rw [this];exact qaz _
     obtain ⟨z,iZ⟩:=qbr (gt P1 j);have PU:=tY.o j aZ Hc wS;have Ta:=ME.o _ (PIN.o _ Df);rw [iZ] at d0 d1 d2 PU Ta;obtain ⟨zk,zi,⟨zb,zo,zc,zl⟩⟩:=z;obtain ⟨⟨x',t',Jo,_⟩,_,Tb,Tc,_,_,_⟩:=Ta;dsimp only at Jo Tb Tc;obtain ⟨zn,rL⟩:=qbr zl.length;obtain ⟨pm,vQ⟩:∃ m,m=zn-1:=⟨_,rfl⟩;have zn0:0<zn:=(by rw [<-rL,Jo];simp);simp only [aL.v,rL] at d0 d1 d2 Tb Tc;obtain ⟨ao,sc,SLP,Td⟩:∃ (ao:Option Addr) (sc:Nat),(∀ W:World,(Instr.slice 72 (ψ zb zo zn zc) (some (By 1)) none none).run prog W=.ok (.slice ao pm sc) W)/\(0<pm->ao=some (φ zb (zo+3))/\sc=zc-1):=by
      by_cases z1:zc=1
      ·have e1:zn=1:=(by omega);have e2:pm=0:=ω;subst z1 e1 e2;exact ⟨some ⟨zb,zo,none⟩,0,fun W=>by simp [go_sem,Instr.slice],fun h=>ω⟩
      ·exact ⟨some ⟨zb,zo+3,none⟩,zc-1,fun W=>by (have zz:¬ ((zn:Int)<1):=ω);simp [go_sem,Instr.slice,z1,vQ,zz],fun _=>⟨rfl,rfl⟩⟩
     have Te:ag (∀ Wq,Gw wS Wq->Calls prog 136 #[IS hb,By (zi:Int),.slice ao pm sc] Wq fun e w'=>e=π #[]/\∃ nJ H2,lE 194 197 w W6 hb g gp np cp 3 (.func (.func K) #[] #[]) (ψ g 0 n cap) pv key H1 P1 (j+1) nJ H2 w'):=fun Wq gq=>PU Wq ao sc pm NB.o jl gq (by show zl.length=pm+1;omega) (fun h0=>Td h0)
     obtain ⟨Wq,EQ⟩:=qbr (wS.alloc (.cells #[BY zk,By (zi:Int),ψ zb zo zn zc] 197));have GQ:ag (Gw wS Wq):=(by rw [<-EQ];exact (Gw.refl wS).alloc _ _);have BQ:Wq.heap[wS.heap.size]?=some (.cells #[BY zk,By (zi:Int),ψ zb zo zn zc] 197 (0,0)):=(by rw [<-EQ];exact Ω _ _);have q1:Wq.drew.cell? (φ wS.heap.size 1)=some (By (zi:Int)):=aj (W:=Wq) BQ rfl;have q2:Wq.drew.cell? (φ wS.heap.size 2)=some (ψ zb zo zn zc):=aj (W:=Wq) BQ rfl;clear PU tY Td vQ rL Jo iZ BQ Df;go_wp2_with fail;refine wp_region_still_tail 6 η η ?_;change wpStill _ _ (World.drew Wq) (fun a'=>wpList _ _ _ _ a' (World.drew Wq)) _ _
     simp only [qbj,List.take_zero,List.drop_succ_cons,List.drop_zero]
     still_step
     still_step
     still_step
     still_step
     still_step
     still_step
     refine wpStill_nil ?_;go_wp2_with fail;refine (Te.o _ GQ.o.drew).mono ?_;rintro ex u5 ⟨rfl,nJ,H2,Tf⟩;have NB5:ag _:=Tf;clear Tf Te q1 q2 EQ;go_wp2_with fail;go_roundg (np-(j+1))
     case measure=>omega
     case rel=>exact ⟨j+1,nJ,H2,by go_num,ω,Yk _,NB5⟩
    ·have ej:j=np:=(by omega);subst ej;have vG:¬ ((j:Int)<(j:Int)):=ω;clear tY;have b5:=(BX.o _ NB.o.bx).1;have k2:=aj (o:=2) b5 rfl;have Jp:0<yn:=(by rw [<-YN.o,YL.o];simp);have kb:wS.heap[yb]?=w.heap[yb]?:=y9.o _ NB.o.gx _ (by rw [YV.o] at Sx;exact Sx)
     have xe:=xel.keep (w':=wS) (by rw [YV.o];exact kb)
     rw [YV.o] at xe;have Tg:ag (Hc.Perm (H1++P1.flatMap (fun h=>eK key h.i (adv 3 h.s)))):=by
      have:=NB.o.pm
      rw [qaQ (by rw [NP.o];exact Yk _)] at this
      exact this
     have yT:ag (∀ W9,Gx (fun q=>q=w.heap.size) wS W9->yW 194 197 w hb K 3 (ψ g 0 n cap) pv H key ix (.agg #[BY 0,BY 0,.bool false]) (π #[ix x,.bool true]) W9):=fun W9 g9=>by
      obtain ⟨f1,f2,f3⟩:=NB.o.fin g9 W6L.o;refine ⟨fun e=>?_,fun _=>⟨x,t,aZ,_,Hc,P1,H1,by rw [YV.o];exact YL.o,rfl,Jn.o,fun p hp=>by rw [YV.o];exact PPK.o p hp,fun p hp=>by rw [YV.o];exact EX.o.2 p hp,Tg.o,NB.o.ho,f1,f2,f3⟩⟩
      rw [e] at Jn;have:=Jn.o.length_eq;rw [Ψ,NP.o] at this;simp at this;omega
     obtain ⟨xk,xv,xg⟩:=x;obtain ⟨r0,r1,r2⟩:wS.cell? (φ yb yo)=some (BY xk)/\wS.cell? (φ yb (yo+1))=some (BY xv)/\wS.cell? (φ yb (yo+2))=some (.bool xg):=by
      have:=xe 0 _ (by show yl[0]?=_;rw [YL.o];rfl)
      simpa using this
     have b2:=(BX.o _ NB.o.bx).2;obtain ⟨W9,E9⟩:=qbr (((wS.setCell (φ w.heap.size 0) (BY xk)).setCell (φ w.heap.size 1) (BY xv)).setCell (φ w.heap.size 2) (.bool xg));have b9:W9.heap[w.heap.size]?=some (.cells #[BY xk,BY xv,.bool xg] 71 (0,0)):=(by rw [<-E9];have:=nE (o:=2) (nE (o:=1) (nE (o:=0) b2 (BY xk)) (BY xv)) (.bool xg);simpa using this);have PO9:ag _:=yT.o W9 (by rw [<-E9];exact (((Gx.refl (fun q=>q=w.heap.size) wS).set (.inl rfl) _ _).set (.inl rfl) _ _).set (.inl rfl) _ _)
     have j0:=aj (o:=0) b2 rfl;have j1:=aj (o:=1) b2 rfl;have j2:=aj (o:=2) b2 rfl;have jf0:=bC (o:=0) b2;have jf1:=bC (o:=1) b2;have jf2:=bC (o:=2) b2;have y0:=aj (o:=0) b9 rfl;have y1:=aj (o:=1) b9 rfl;have y2:=aj (o:=2) b9 rfl;have lw:w.heap.size<wS.heap.size:=ak b2;clear yT b2 b9;clear NB Tg xe b5 BX y9;go_wp2_with fail;refine bodyPost_ret (v:=.tuple #[.agg #[BY xk,BY xv,.bool xg],.bool true]) (by simp [results,results123,go_sem,y0,y1,y2]) rfl PO9.o
theorem adN (K:Nat) (key:ah->Int) (FK:C4 ix key ah.ok K) (L:List (aL ah)) (ao:Option Addr) (c:Nat) (hL:L.length<=3000000) (w:World) (hv:LV w ao L) (fD:∀ s∈L,rK ah.ok w.heap.size s) (rM:∀ s∈L,s.l≠[]->iy w s) :
  Calls prog 122 #[.func (.func K) #[] #[],.slice ao L.length c] w fun e w'=>e=χ (IS (w.heap.size))/\(∃ hv H,Tl 194 197 (iy) ah.ok key L w.heap.size K [] L hv (.slice none 0 0) H [] w')/\Gw w w':=by
 obtain ⟨n,hn⟩:=qbr L.length;have LN:ag _:=hn;rw [hn] at hL ⊢;have Th:ag _:=hv;obtain ⟨hb,tZ⟩:=qbr w.heap.size;have ua:ag _:=tZ;obtain ⟨W1,E1⟩:=qbr (w.alloc (.cells #[.func (.func K) #[] #[],.slice none 0 0,.slice none 0 0] 194));have G1:ag (Gw w W1):=by rw [<-E1];exact (Gw.refl w).alloc _ _
 have B1:ag (W1.heap[hb]?=some (.cells #[.func (.func K) #[] #[],.slice none 0 0,.slice none 0 0] 194 (0,0))):=by rw [<-E1,<-tZ];exact Ω w _
 have tY:ag (∀ (i:Nat) (hi:i<n) (hv:Value) (H:List (Hd ah)) (W:World) (bo:Option Addr) (sc:Nat),H.Perm (cC key 0 (L.take i))->bU H->eV 194 197 W hb (hb+1) (.func (.func K) #[] #[]) hv (.slice none 0 0) H->Gw w W->(0<(L[i]'(by rw [LN.o];exact hi)).l.length->bo=some ⟨(L[i]'(by rw [LN.o];exact hi)).b,(L[i]'(by rw [LN.o];exact hi)).off,none⟩/\sc=(L[i]'(by rw [LN.o];exact hi)).c)->Calls prog 136 #[IS hb,By (i:Int),.slice bo (L[i]'(by rw [LN.o];exact hi)).l.length sc] W fun e w'=>e=π #[]/\(∃ aZ H',H'.Perm (cC key 0 (L.take (i+1)))/\bU H'/\eV 194 197 w' hb (hb+1) (.func (.func K) #[] #[]) aZ (.slice none 0 0) H')/\Gw w w'):=fun i hi hv H W bo sc h1 h2 h3 gW hbo=>by
  have dQ:i<L.length:=by rw [LN.o];exact hi
  have sm:L[i]∈L:=qaz dQ;have few:H.length<=n:=by have e:=h1.length_eq;have:=Il (key:=key) (L.take i) 0;simp at this;omega
  have LO:=fD _ sm;have ne:0<L[i].l.length->L[i].l≠[]:=fun h0 e=>by rw [e] at h0;simp at h0
  have za:L[i].l.length<=4000000:=by
   rcases Nat.eq_zero_or_pos L[i].l.length with z | z
   ·omega
   ·exact (LO (ne z)).2.2.1
  have el:iy W L[i]:=by
   rcases Nat.eq_zero_or_pos L[i].l.length with z | z
   ·intro k y hy
    rw [qbh.1 z] at hy;simp at hy
   ·exact (rM _ sm (ne z)).keep (gW.below.block _ (LO (ne z)).1)
  refine (Su hb H.length (hb+1) K i hv _ H L[i] key FK rfl ω ω W h3 (Yk _) h2 za bo sc (fun h0=>?_) el (fun y hy=>?_)).mono fun e w' ⟨q1,⟨aZ,H',q2,q3,q4,q5⟩,q6⟩=>⟨q1,⟨aZ,H',?_,q3,q4⟩,Gx.gw gW q6 (fun q hq=>?_)⟩
  ·obtain ⟨z1,z2⟩:=hbo h0
   exact ⟨z1,z2,(LO (ne h0)).2.1,Θ (LO (ne h0)).1 gW.size⟩
  ·have h0:0<L[i].l.length:=List.length_pos_of_mem hy
   exact (LO (ne h0)).2.2.2 y hy
  ·rw [qaW,qah dQ,Option.toList_some,Sj]
   have e:0+(L.take i).length=i:=(by simp;omega);rw [e];refine q2.trans (List.Perm.append h1 ?_);simp [cC]
  ·have:=ua.o
   rcases hq with x | x
   ·omega
   ·have:=(oI h3.row q x).1;omega
 have Ti:ag (∀ (i:Nat) (hi:i<n) (W:World),Gw w W->∃ b off bo sc,ao=some (φ b off)/\W.cell? (φ b (off+i))=some (.slice bo (L[i]'(by rw [LN.o];exact hi)).l.length sc)/\(0<(L[i]'(by rw [LN.o];exact hi)).l.length->bo=some ⟨(L[i]'(by rw [LN.o];exact hi)).b,(L[i]'(by rw [LN.o];exact hi)).off,none⟩/\sc=(L[i]'(by rw [LN.o];exact hi)).c)):=fun i hi W gW=>by
  obtain ⟨b,off,e,eQ,hc⟩:=(Th.o.gw gW).cells (by rw [LN.o];omega)
  obtain ⟨bo,sc,q1,q2⟩:=hc i (by rw [LN.o];exact hi)
  exact ⟨b,off,bo,sc,e,q1,q2⟩
 have aD:ag (∀ (hv:Value) (H:List (Hd ah)) (W:World),H.Perm (cC key 0 (L.take n))->bU H->eV 194 197 W hb (hb+1) (.func (.func K) #[] #[]) hv (.slice none 0 0) H->Gw w W->Tl 194 197 (iy) ah.ok key L hb K [] L hv (.slice none 0 0) H [] W):=fun hv H W h1 h2 h3 gW=>by
  rw [qaQ (by rw [LN.o];exact Yk _)] at h1
  refine ⟨h1,h2,⟨h3,IE _ _ _,fun q _ e=>by cases e⟩,fun s hs=>by have:=fD s hs;rw [ua.o] at this;exact this,fun s hs ne=>(rM s hs ne).keep (gW.below.block _ (fD s hs ne).1),fun out ho=>by simpa using ho,rfl,ε,ε⟩
 clear hv fD rM hn FK tZ Th;go_enter func122,ntmps122;rw [ua.o];go_wp2_with fail;rw [ua.o];go_loopg [13] n (fun gg yj wr=>∃ (i:Nat) (hv:Value) (H:List (Hd ah)),yj=By (i:Int)/\i<=n/\n-i<=gg/\ag (H.Perm (cC key 0 (L.take i))/\bU H/\eV 194 197 wr hb (hb+1) (.func (.func K) #[] #[]) hv (.slice none 0 0) H)/\ag (Gw w wr))
 case atStart=>exact ⟨0,.slice none 0 0,[],rfl,Γ _,ω,⟨by simp [cC],(fun i _ hi=>by simp at hi),⟨B1.o,IE _ _ _,fun q e=>by cases e⟩⟩,G1⟩
 case round =>
  obtain ⟨i,hv,H,rfl,i1,i2,HH,GG⟩:=hrel;by_cases il:i<n
  ·have Hj:(i:Int)<(n:Int):=(by omega);obtain ⟨b,off,bo,sc,rfl,q1,q2⟩:=Ti.o i il wr GG.o;have PU:ag _:=fun W gW=>tY.o i il hv H W bo sc HH.o.1 HH.o.2.1 ⟨(gW.below.block _ (ak HH.o.2.2.blk)).trans HH.o.2.2.blk,vV HH.o.2.2.row gW,HH.o.2.2.ne⟩ (GG.o.trans gW) q2
   obtain ⟨ll,yR⟩:∃ ll,(L[i]'(by rw [LN.o];exact il)).l.length=ll:=⟨_,rfl⟩
   rw [yR] at q1 PU;clear q2 yR tY;go_wp2_with fail;refine (PU.o wr (Gw.refl _)).mono ?_;rintro ex u5 ⟨rfl,⟨aZ,H',p1,p2,p3⟩,g5⟩;have H5:ag _:=And.intro p1 (And.intro p2 p3);have G5:ag _:=g5;clear p1 p2 p3 g5 PU;go_wp2_with fail;go_roundg (n-(i+1))
   case measure=>omega
   case rel=>exact ⟨i+1,aZ,H',by go_num,ω,Yk _,H5,G5⟩
  ·have ei:i=n:=(by omega);subst ei;have Hj:¬ ((i:Int)<(i:Int)):=ω;have FF:ag _:=aD.o hv H wr HH.o.1 HH.o.2.1 HH.o.2.2 GG.o;clear aD tY Ti;go_wp2_with fail;go_ret;exact ⟨rfl,⟨hv,H,FF.o⟩,GG.o⟩
structure nK (w:World) (bx base:Nat) (va:Value) (o:List ah):Prop where
 blk:w.heap[bx]?=some (.cells #[va] 72 (0,0))
 row:EO w base va o
 ne:∀ q,va.ownBlock=some q->q≠bx
theorem adO (bx base:Nat) (va:Value) (o:List ah) (x:ah) (w:World) (hb:base<=w.heap.size) (ho:o.length<=3000000) (h:nK w bx base va o) :
  Calls prog 110 #[ix x,IS bx] w fun e w'=>e=χ (.bool true)/\(∃ jr,nK w' bx base jr (o++[x])/\(∀ q,jr.ownBlock=some q->va.ownBlock=some q\/w.heap.size<=q))/\Gx (fun q=>q=bx\/va.ownBlock=some q) w w':=by
 obtain ⟨hk,hr,ne⟩:=h;obtain ⟨n,hn⟩:=qbr o.length;have LN:ag _:=hn;rw [hn] at ho;have HB:ag _:=hk;have R0:ag _:=hr;have NE:ag _:=ne;have bl:bx<w.heap.size:=ak hk;have c0:w.cell? (φ bx 0)=some va:=aj hk rfl;obtain ⟨xk,xv,xg⟩:=x;simp only [ix];obtain ⟨ii,aK,hz,cF,aJ⟩:=info_parts kZ;obtain ⟨W1,E1⟩:=qbr (w.alloc (.cells #[BY xk,BY xv,.bool xg] 71));have G1:ag (Gw w W1):=by rw [<-E1];exact (Gw.refl w).alloc _ _
 have b1:W1.heap[w.heap.size]?=some (.cells #[BY xk,BY xv,.bool xg] 71 (0,0)):=by rw [<-E1];exact Ω w _
 have d0:=aj (o:=0) b1 rfl;have d1:=aj (o:=1) b1 rfl;have d2:=aj (o:=2) b1 rfl;have k0:W1.cell? (φ bx 0)=some va:=(G1.o.cell _ _ bl).trans c0;have l1:w.heap.size<W1.heap.size:=ak b1;have OW:ag ((W1.alloc (.cells #[BY xk,BY xv,.bool xg] 71)).ownsRow base 71 3 va n (o.flatMap aI)):=by
  have:=nC R0.o G1.o
  unfold EO at this;rw [LN.o] at this;exact this.alloc _
 have oP:ag (∀ (v':Value) (w7:World),w7.ownsRow base 71 3 v' (n+1) (o.flatMap aI++aI ⟨xk,xv,xg⟩)->(W1.alloc (.cells #[BY xk,BY xv,.bool xg] 71)).grownBy w7 va.ownBlock->(v'.ownBlock=va.ownBlock\/v'.ownBlock=some (W1.heap.size+1)) ->
   w7.heap[bx]?=some (.cells #[va] 72 (0,0))/\(∃ jr,nK (w7.setCell (φ bx 0) v') bx base jr (o++[⟨xk,xv,xg⟩])/\(∀ q,jr.ownBlock=some q->va.ownBlock=some q\/w.heap.size<=q))/\Gx (fun q=>q=bx\/va.ownBlock=some q) w (w7.setCell (φ bx 0) v')):=fun v' w7 r1 r2 r4=>by
  have s1:=G1.o.size;have b7:w7.heap[bx]?=some (.cells #[va] 72 (0,0)):=(r2.block bx ζ (fun e=>NE.o bx e.symm rfl)).trans ((qap _ _ ω).trans ((G1.o.below.block bx bl).trans HB.o))
  have nv:∀ q,v'.ownBlock=some q->va.ownBlock=some q\/w.heap.size<=q:=fun q hq=>by
   rcases r4 with e | e
   ·rw [e] at hq;exact .inl hq
   ·rw [e] at hq;cases hq;exact .inr ω
  have ne':∀ q,v'.ownBlock=some q->q≠bx:=fun q hq=>by
   rcases nv q hq with e | e
   ·exact NE.o q e
   ·omega
  refine ⟨b7,⟨v',⟨nE b7 _,?_,ne'⟩,nv⟩,?_⟩
  ·exact lU (pQ (by rw [LN.o];exact r1)) fun q hq=>qac _ _ _ _ (ne' q hq)
  ·exact ((((G1.o.alloc _ _).gx _).grown r2 (fun q hq=>.inl (.inr hq))).set (.inl (Or.inl rfl)) _ _)
 clear hk hr ne hn c0 b1 R0 NE HB;go_enter func110,ntmps110;go_wp2_with (at_builtin;refine wpList_append_own_at _ rfl _ _ 72 rfl base 71 ii (.agg #[BY 0,BY 0,.bool false]) 3 24 underlying72 aK hz cF aJ rfl γ _ n _ rfl OW.o ⟨W1.heap.size,0,none⟩ 1 1 (aI ⟨xk,xv,xg⟩) rfl rfl (lV W1 ⟨xk,xv,xg⟩) (kC _) θ ω ζ ?_);intro v' w7 r1 r2 r3 r4;obtain ⟨b8,cap8,ev,_,_,_⟩:=cJ r1 (by simpa using r3)
 obtain ⟨B7,A7,G7⟩:=oP.o v' w7 r1 r2 (by simpa using r4)
 have k7:=aj (o:=0) B7 rfl;have f7:=bC (o:=0) B7;have l7:=ak B7;have A8:ag _:=And.intro A7 G7;clear B7 A7 G7 r1 r2 r3 r4 oP OW;subst ev;go_wp2_with fail;go_ret;exact ⟨rfl,A8.o.1,A8.o.2⟩
theorem Tj:C4 ix ah.k ah.ok 109:=by
 refine ⟨fun args W=>rfl,fun W x _=>?_⟩
 obtain ⟨xk,xv,xg⟩:=x;simp only [ix];go_enter func109,ntmps109;go_wp2_with fail;go_ret;exact ⟨rfl,(Gw.refl W).alloc _ _⟩
structure wI (w:World) (L:List (aL ah)) (hb bx:Nat) (told:List ah) (Lc:List (aL ah)) (hv pv:Value) (H P:List (Hd ah)) (va:Value) (wr:World):Prop where
 tl:Tl 194 197 iy ah.ok ah.k L hb 109 told Lc hv pv H P wr
 al:nK wr bx hb va told
 ap:∀ q,iw hb hv pv q->va.ownBlock≠some q
 nb:∀ s∈Lc,s.l≠[]->s.b≠bx
 gx:Gx (fun q=>q=bx) w wr
 bl:bx<hb/\hb=w.heap.size/\hb<wr.heap.size
theorem wI.next {w:World} {L:List (aL ah)} {hb bx:Nat} {told:List ah} {Lc:List (aL ah)} {hv pv:Value} {H P:List (Hd ah)} {va:Value} {wr w':World} {zero:Value} {e:Ending} (h:wI w L hb bx told Lc hv pv H P va wr) (ne:H≠[]) (r:yW 194 197 wr hb 109 3 hv pv H ah.k ix zero e w') :
  ∃ x lH aZ kI H' P',e=π #[ix x,.bool true]/\aN (lH.map aL.l)<aN (Lc.map aL.l)/\w.heap.size<=w'.heap.size/\nK w' bx hb va told/\told.length<aN (L.map aL.l)/\∀ w4 w5 jr,Gw w' w4->nK w5 bx hb jr (told++[x])->(∀ q,jr.ownBlock=some q->va.ownBlock=some q\/w4.heap.size<=q)->Gx (fun q=>q=bx\/va.ownBlock=some q) w4 w5->wI w L hb bx (told++[x]) lH aZ kI H' P' jr w5:=by
 obtain ⟨x,lH,aZ,kI,H',P',r1,r2,r3,r4,r5,r6,r7⟩:=h.tl.next elpE h.bl.2.2 ne r;have bG:=h.bl;have s1:=r5.size;have nbx:¬ iw hb hv pv bx:=fun e=>by have:=(h.tl.st.lt e).1;omega
 have tN:nK w' bx hb va told:=⟨(r5.block bx (ak h.al.blk) nbx).trans h.al.blk,lU h.al.row fun q hq=>r5.block q (World.ownsRow.lt h.al.row q hq).2 (fun e=>h.ap q e hq),h.al.ne⟩
 have tn:=r3.tn;have g0:Gx (fun q=>q=bx) w w':=h.gx.trans r5 (fun q hq=>.inr (by have:=(h.tl.st.lt hq).1;omega))
 have jT:∀ s∈lH,s.l≠[]->s.b≠bx:=fun s hs ns=>by obtain ⟨s0,q1,q2,q3⟩:=r7 s hs ns;rw [q3];exact h.nb s0 q1 q2
 have Tk:∀ q,iw hb aZ kI q->va.ownBlock≠some q:=fun q hq e=>by
  rcases r4 q hq with y | y
  ·exact h.ap q y e
  ·have:=(World.ownsRow.lt h.al.row q e).2;omega
 refine ⟨x,lH,aZ,kI,H',P',r1,r6,Φ h.gx.size s1,tN,by rw [Ψ] at tn;simp at tn;omega,fun w4 w5 jr g4 a5 o5 g5=>⟨?_,a5,fun q hq e=>?_,jT,?_,⟨bG.1,bG.2.1,by have:=g4.size;have:=g5.size;omega⟩⟩⟩
 ·refine r3.keep elpE (fun q hq=>?_) (fun s hs ns=>?_)
  ·have ql:=(r3.st.lt hq)
   exact (g5.block q (by have:=g4.size;omega) (fun e=>by
    rcases e with e | e
    ·omega
    ·exact Tk q hq e)).trans (g4.below.block q ql.2)
  ·have sb:=(r3.mem s hs ns).1
   exact (g5.block _ (by have:=g4.size;omega) (fun e=>by
    rcases e with e | e
    ·exact jT s hs ns e
    ·have:=(World.ownsRow.lt h.al.row _ e).1;omega)).trans (g4.below.block _ ω)
 ·rcases o5 q e with y | y
  ·exact Tk q hq y
  ·have:=(r3.st.lt hq).2;have:=g4.size;omega
 ·refine (g0.tw g4).trans g5 (fun q hq=>?_)
  rcases hq with e | e
  ·exact .inl e
  ·exact .inr (by have:=(World.ownsRow.lt h.al.row q e).1;omega)
theorem adP (L:List (aL ah)) (ao:Option Addr) (c bx:Nat) (hL:L.length<=2000000) (hS:aN (L.map aL.l)<=2000000) (w:World) (hv:LV w ao L) (fD:∀ s∈L,rK ah.ok w.heap.size s) (rM:∀ s∈L,s.l≠[]->iy w s) (nb:∀ s∈L,s.l≠[]->s.b≠bx) (eM:w.heap[bx]?=some (.cells #[.slice none 0 0] 72 (0,0))) :
  Calls prog 108 #[.func (.func 109) #[] #[],.slice ao L.length c,.func (.func 110) #[] #[IS bx]] w fun e w'=>e=π #[]/\(∃ va o,Mg ah.k (L.map aL.l) o/\nK w' bx w.heap.size va o)/\Gx (fun q=>q=bx) w w':=by
 obtain ⟨n,hn⟩:=qbr L.length;have HO:=adN 109 ah.k Tj L ao c ω w hv fD rM;rw [hn] at HO ⊢;have Jq:ag _:=HO;have LN:ag _:=hn;have Tm:ag _:=ak eM;have BX0:ag _:=eM;have NB:ag _:=nb;have ST:ag (∀ W hv H,Tl 194 197 iy ah.ok ah.k L w.heap.size 109 [] L hv (.slice none 0 0) H [] W->Gw w W->wI w L w.heap.size bx [] L hv (.slice none 0 0) H [] (.slice none 0 0) W):=fun W hv H t g=>⟨t,⟨(g.below.block _ Tm.o).trans BX0.o,qaL _ _ _ _,(fun q e=>by cases e)⟩,(fun q _ e=>by cases e),NB.o,g.gx _,⟨Tm.o,rfl,ak t.st.hp.blk⟩⟩
 obtain ⟨hb,tZ⟩:=qbr w.heap.size;have ua:ag _:=tZ;rw [tZ] at Jq ST;have NX:ag (∀ told Lc hv pv H P va wr,wI w L hb bx told Lc hv pv H P va wr->Calls prog 123 #[IS hb] wr fun e w'=>yW 194 197 wr hb 109 3 hv pv H ah.k ix (.agg #[BY 0,BY 0,.bool false]) e w'):=fun told Lc hv pv H P va wr h=>adM hb _ hv pv H P ah.k Tj (by have:=h.tl.few;omega) (by have:=h.tl.pl;omega) wr h.tl.st h.tl.ho (h.tl.me ω)
 have E1:ag (∀ va o x W,hb<=W.heap.size->o.length<=3000000->nK W bx hb va o->Calls prog 110 #[ix x,IS bx] W fun e w'=>e=χ (.bool true)/\(∃ jr,nK w' bx hb jr (o++[x])/\(∀ q,jr.ownBlock=some q->va.ownBlock=some q\/W.heap.size<=q))/\Gx (fun q=>q=bx\/va.ownBlock=some q) W w'):=fun va o x W h1 h2 h3=>adO bx hb va o x W h1 h2 h3
 obtain ⟨sz,cF⟩:=qbr (aN (L.map aL.l));have SZ:ag _:=cF;rw [cF] at hS;clear HO hv fD rM hn nb eM tZ cF;go_enter func108,ntmps108;go_wp2_with fail;refine Calls.mono Jq.o ?_;rintro e w1 ⟨rfl,⟨hv,H,t1⟩,g1⟩;have T1:ag _:=ST.o w1 hv H t1 g1;clear t1 g1 Jq ST;go_wp2_with fail;go_loopg [] (sz+1) (fun gg wr=>∃ (told:List ah) (Lc:List (aL ah)) (hv pv:Value) (H P:List (Hd ah)) (va:Value) (m:Nat),m<gg/\ag (aN (Lc.map aL.l)=m)/\ag (wI w L hb bx told Lc hv pv H P va wr))
 case atStart=>exact ⟨[],L,hv,_,H,[],_,sz,ω,SZ,T1⟩
 case round =>
  clear T1;obtain ⟨told,Lc,hv,pv,H,P,va,m,mg,MS,TT⟩:=hrel;obtain ⟨wS,aS⟩:=qbs wr;subst aS;have Dg:ag _:=NX.o _ _ _ _ _ _ _ _ TT.o;by_cases hE:H=[]
  ·have zd:ag (Calls prog 123 #[IS hb] wS fun e w'=>e=χ (.tuple #[.agg #[BY 0,BY 0,.bool false],.bool false])/\Gw wS w'):=Calls.mono Dg.o fun e w' r=>r.1 hE
   have OV:ag _:=TT.o.tl.over hE;clear hE NX Dg E1;go_wp2_with fail;refine Calls.mono zd.o ?_;rintro e w2 ⟨rfl,g2⟩;have G2:ag (Gw wS (w2.alloc (.cells #[BY 0,BY 0,.bool false] 71))):=g2.alloc _ _;clear g2 zd;go_wp2_with fail;refine bodyPost_ret (results_none rfl _ _ _) rfl ?_;exact ⟨rfl,⟨va,told,OV.o,by
    have a:=TT.o.al;rw [ua.o];exact ⟨(G2.o.below.block _ (ak a.blk)).trans a.blk,nC a.row G2.o,a.ne⟩⟩,TT.o.gx.tw G2.o⟩
  ·have zd:ag _:=Calls.mono Dg.o fun e w' r=>TT.o.next hE r
   clear hE NX Dg;go_wp2_with fail;refine Calls.mono zd.o ?_;rintro e w2 ⟨x,lH,aZ,kI,H',P',rfl,slt,Tn,To,Tp,Tq⟩;have SLT:ag (aN (lH.map aL.l)<m):=(by rw [<-MS.o];exact slt);have SGR:ag (hb<=w2.heap.size):=(by rw [<-ua.o];exact Tn);have Dh:ag _:=To;have TLT:ag (told.length<=3000000):=(by rw [SZ.o] at Tp;show _<=_;omega);have Tr:ag _:=Tq;clear slt Tn To Tp Tq zd;have EX:=fun W=>E1.o va told x W
   obtain ⟨xk,xv,xg⟩:=x;simp only [ix] at EX;obtain ⟨W3,E3⟩:=qbr (w2.alloc (.cells #[BY xk,BY xv,.bool xg] 71));have G3:ag (Gw w2 W3):=(by rw [<-E3];exact (Gw.refl w2).alloc _ _);have b3:W3.heap[w2.heap.size]?=some (.cells #[BY xk,BY xv,.bool xg] 71 (0,0)):=(by rw [<-E3];exact Ω w2 _);have d0:=aj (o:=0) b3 rfl;have d1:=aj (o:=1) b3 rfl;have d2:=aj (o:=2) b3 rfl;have l3:w2.heap.size<W3.heap.size:=ak b3;have Ts:ag _:=EX W3 (Φ SGR.o G3.o.size) TLT.o ⟨(G3.o.below.block _ (ak Dh.o.blk)).trans Dh.o.blk,nC Dh.o.row G3.o,Dh.o.ne⟩;clear EX E1 b3;simp only [ix];go_wp2_with fail;refine Calls.mono Ts.o ?_;rintro e w5 ⟨rfl,⟨jr,a5,o5⟩,g5⟩;have T5:ag _:=Tr.o W3 w5 jr G3.o a5 o5 g5;clear a5 o5 g5 Tr Ts;obtain ⟨m',xW⟩:=qbr (aN (lH.map aL.l));have MS':ag _:=xW;have ml:m'<m:=(by rw [<-xW];exact SLT.o);clear xW;go_wp2_with fail;go_roundg (m'+1)
   case measure=>omega
   case rel=>exact ⟨_,lH,aZ,kI,H',P',jr,m',ω,MS',T5⟩
