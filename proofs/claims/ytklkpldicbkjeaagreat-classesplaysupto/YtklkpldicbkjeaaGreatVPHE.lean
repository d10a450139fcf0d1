/- Package merge: which of two heads is ahead; the first of three; a head rises. -/
import Derived.StillTailTactics
import Derived.Test.YtklkpldicbkjeaaGreatVPNext
set_option linter.unusedVariables false
set_option maxHeartbeats 8000000
set_option maxRecDepth 20000
open Go.Proofs.Tryz
namespace Go.Proofs.YtklkpldicbkjeaaGreat
open Go.RowKit
theorem Pn {α:Type} (x y:Hd α) (w:World):Calls prog 150 #[x.v,y.v] w fun e w'=>e=.returned (.bool (iq x y))/\Gw w w':=by
 obtain ⟨k1,i1,⟨b1,o1,c1,l1⟩⟩:=x;obtain ⟨k2,i2,⟨b2,o2,c2,l2⟩⟩:=y;simp only [Hd.v];obtain ⟨n1,n9⟩:∃ n,l1.length=n:=⟨_,rfl⟩;obtain ⟨n2,gK⟩:∃ n,l2.length=n:=⟨_,rfl⟩;rw [n9,gK];have AB:∀ r:Bool,((decide (k1<k2)||(decide (k1=k2)&&decide (i1<i2)))=r)->ag (iq (⟨k1,i1,⟨b1,o1,c1,l1⟩⟩:Hd α) ⟨k2,i2,⟨b2,o2,c2,l2⟩⟩=r):=fun r h=>h
 have G:ag (Gw w ((w.alloc (.cells #[.int .u64 k1,.int .i64 (i1:Int),.slice (some ⟨b1,o1,none⟩) n1 c1] 176)).alloc (.cells #[.int .u64 k2,.int .i64 (i2:Int),.slice (some ⟨b2,o2,none⟩) n2 c2] 176))):=((Gw.refl w).alloc _ _).alloc _ _;by_cases t1:k1<k2
 ·have A:=AB true (by simp [t1])
  have mC:decide (k1<k2)=true:=by simpa using t1
  clear AB t1;go_enter func150,ntmps150;go_wp2_with fail;go_ret;exact ⟨by rw [A.o];rfl,G.o⟩
 ·have mC:decide (k1<k2)=false:=by simpa using t1
  by_cases t2:k1=k2
  ·have EH:(k1 == k2)=true:=by simpa using t2
   by_cases t3:i1<i2
   ·have A:=AB true (by simp [t2,t3])
    have t3':decide ((i1:Int)<(i2:Int))=true:=by simpa using t3
    clear AB t1 t2;go_enter func150,ntmps150;go_wp2_with fail;go_ret;exact ⟨by rw [A.o];rfl,G.o⟩
   ·have A:=AB false (by simp [t1,t3])
    have t3':decide ((i1:Int)<(i2:Int))=false:=by simpa using t3
    clear AB t1 t2;go_enter func150,ntmps150;go_wp2_with fail;go_ret;exact ⟨by rw [A.o];rfl,G.o⟩
  ·have A:=AB false (by simp [t1,t2])
   have EH:(k1 == k2)=false:=by simpa using t2
   clear AB t1 t2;go_enter func150,ntmps150;go_wp2_with fail;go_ret;exact ⟨by rw [A.o];rfl,G.o⟩
theorem abI {α:Type} (hb a n g cap base:Nat) (kf pv:Value) (H:List (Hd α)) (hn:H.length=n) (gK:n<=4000000) (ha:a<=4000000) (w:World) (hh:w.heap[hb]?=some (.cells #[kf,.slice (some ⟨g,0,none⟩) n cap,pv] 173 (0,0))) (hr:HR 176 w base (.slice (some ⟨g,0,none⟩) n cap) H) :
  Calls prog 151 #[.pointer (some ⟨hb,0,none⟩),.int .i64 (a:Int)] w fun e w'=>(∃ d:Nat,e=.returned (.int .i64 (d:Int))/\Eb H a d)/\Gw w w':=by
 obtain ⟨a2,wH⟩:∃ a2:Nat,a2=2*a:=⟨_,rfl⟩;obtain ⟨c1,zW⟩:∃ c:Nat,c=2*a+1:=⟨_,rfl⟩;obtain ⟨c2,Po⟩:∃ c:Nat,c=2*a+2:=⟨_,rfl⟩;have w1:IntKind.i64.wrap (2*(a:Int))=(a2:Int):=by rw [IntKind.wrap_i64];omega
 have w2:IntKind.i64.wrap ((a2:Int)+1)=(c1:Int):=by rw [IntKind.wrap_i64];omega
 have w3:IntKind.i64.wrap ((a2:Int)+2)=(c2:Int):=by rw [IntKind.wrap_i64];omega
 have C1:ag _:=zW;have C2:ag _:=Po;have HB:ag _:=hh;have EJ:ag _:=hr;have LN:ag _:=hn;have AH:ag (∀ (x y:Hd α) (W:World),Calls prog 150 #[x.v,y.v] W fun e w'=>e=.returned (.bool (iq x y))/\Gw W w'):=fun x y W=>Pn x y W
 have wI:=(eK hr hn).2.1;have cG:∀ W:World,(Instr.index 251 (.agg #[.int .i64 (c1:Int),.int .i64 (c2:Int)]) (.int .i64 0)).run prog W=.ok (.int .i64 (c1:Int)) W:=fun _=>by kernel_rfl
 have wJ:∀ W:World,(Instr.index 251 (.agg #[.int .i64 (c1:Int),.int .i64 (c2:Int)]) (.int .i64 1)).run prog W=.ok (.int .i64 (c2:Int)) W:=fun _=>by kernel_rfl
 clear hh hr hn wH zW Po;go_enter func151,ntmps151;go_wp2_with fail;go_loopg [5,16] 2 (fun gg s5 EK wr=>∃ (f j:Nat),s5=.int .i64 (f:Int)/\EK=.int .i64 (j:Int)/\j<=2/\2-j<=gg/\ag (eT H a j f)/\ag (Gw w wr))
 case atStart=>exact ⟨a,0,rfl,rfl,Nat.zero_le _,by omega,eT.start H a,Gw.refl w⟩
 case round =>
  obtain ⟨f,j,rfl,rfl,j2,jg,BI,GG⟩:=hrel;have aX:hb<w.heap.size:=aE HB.o;have gl:g<w.heap.size:=(eK EJ.o LN.o).2.2.1;have kE:wr.cell? ⟨hb,1,none⟩=some (.slice (some ⟨g,0,none⟩) n cap):=(GG.o.cell _ _ aX).trans (aD HB.o rfl);by_cases jl:j<2
  ·rcases (show j=0\/j=1 by omega) with rfl | rfl
   ·by_cases cl:c1<n
    ·have ET:decide ((c1:Int)<(n:Int))=true:=by simpa using cl
     have fl:f<n:=by have:=BI.o.lt C1.o (by rw [LN.o];exact cl);rw [LN.o] at this;exact this
     have dr:=(eK EJ.o LN.o).2.2.2;obtain ⟨e0,e1,e2⟩:=dr c1 cl;obtain ⟨f0,f1,f2⟩:=dr f fl;clear dr;obtain ⟨x,hx⟩:∃ x,gt H c1=x:=⟨_,rfl⟩;obtain ⟨y,hy⟩:∃ y,gt H f=y:=⟨_,rfl⟩;have fJ:ag (iq x y=false->eT H a (0+1) f):=fun q=>BI.o.stay C1.o (by rw [hx,hy];exact Ea.1 q)
     have oa:ag (iq x y=true->eT H a (0+1) c1):=fun q=>BI.o.turn (by omega) C1.o (by rw [LN.o];exact cl) (by rw [hx,hy];exact zM.1 q)
     rw [hx] at e0 e1 e2;rw [hy] at f0 f1 f2;have AX:=AH.o x y;obtain ⟨ab,cO⟩:∃ ab,iq x y=ab:=⟨_,rfl⟩;rw [cO] at AX fJ oa;obtain ⟨xk,xi,⟨xb,xo,xc,xl⟩⟩:=x;obtain ⟨yk,yi,⟨yb,yo,yc,yl⟩⟩:=y;simp only [Hd.v,aB.v] at AX e2 f2;obtain ⟨xn,ir⟩:∃ m,xl.length=m:=⟨_,rfl⟩;obtain ⟨yn,fM⟩:∃ m,yl.length=m:=⟨_,rfl⟩;rw [ir] at AX e2;rw [fM] at AX f2;have tS:ag _:=AX;have HW:ag (∀ w',Gw wr w'->Gw wr w'/\w'.cell? ⟨hb,1,none⟩=some (.slice (some ⟨g,0,none⟩) n cap)/\w'.cell? ⟨g,c1*3,none⟩=some (.int .u64 xk)/\w'.cell? ⟨g,c1*3+1,none⟩=some (.int .i64 (xi:Int))/\w'.cell? ⟨g,c1*3+2,none⟩=some (.slice (some ⟨xb,xo,none⟩) xn xc)/\w'.cell? ⟨g,f*3,none⟩=some (.int .u64 yk)/\w'.cell? ⟨g,f*3+1,none⟩=some (.int .i64 (yi:Int))/\w'.cell? ⟨g,f*3+2,none⟩=some (.slice (some ⟨yb,yo,none⟩) yn yc)):=fun w' gg=>by
      have G':=GG.o.trans gg;have k:=fun o=>G'.cell g o gl
      exact ⟨gg,(gg.cell _ _ (Nat.lt_of_lt_of_le aX GG.o.size)).trans kE,(k _).trans e0,(k _).trans e1,(k _).trans e2,(k _).trans f0,(k _).trans f1,(k _).trans f2⟩
     clear hx hy cO ir fM AX e0 e1 e2 f0 f1 f2 kE BI;obtain ⟨wS,aZ⟩:∃ wx,wx=wr:=⟨_,rfl⟩;subst aZ;go_wp2_with fail;go_region_held3 (fun w'=>Gw wS w'/\w'.cell? ⟨hb,1,none⟩=some (.slice (some ⟨g,0,none⟩) n cap)/\w'.cell? ⟨g,c1*3,none⟩=some (.int .u64 xk)/\w'.cell? ⟨g,c1*3+1,none⟩=some (.int .i64 (xi:Int))/\w'.cell? ⟨g,c1*3+2,none⟩=some (.slice (some ⟨xb,xo,none⟩) xn xc)/\w'.cell? ⟨g,f*3,none⟩=some (.int .u64 yk)/\w'.cell? ⟨g,f*3+1,none⟩=some (.int .i64 (yi:Int))/\w'.cell? ⟨g,f*3+2,none⟩=some (.slice (some ⟨yb,yo,none⟩) yn yc))
      ((refine HW.o _ ?_;(repeat (first | exact Gw.refl _ | exact And.left (by assumption) | exact ag.o (by assumption) | refine Gw.drew ?_ | refine Gw.drewN ?_ _));done))
      ((go_at_call 150;refine (tS.o _).mono ?_;rintro ex u5 ⟨rfl,g5⟩;have G5:ag (Gw wS u5):=Gw.trans (by repeat (first | exact Gw.refl _ | exact And.left (by assumption) | exact ag.o (by assumption) | refine Gw.drew ?_ | refine Gw.drewN ?_ _)) g5;clear g5))
     have GX:ag _:=GG.o.trans G5.o;cases ab with
     | true =>
      have D:=oa.o rfl;have DD:ag _:=D;clear D fJ oa HW;go_wp2_with fail;go_roundg (2-(0+1))
      case measure=>omega
      case rel=>exact ⟨c1,0+1,rfl,by go_num,by omega,Nat.le_refl _,DD,GX⟩
     | false =>
      have D:=fJ.o rfl;have DD:ag _:=D;clear D fJ oa HW;go_wp2_with fail;go_roundg (2-(0+1))
      case measure=>omega
      case rel=>exact ⟨f,0+1,rfl,by go_num,by omega,Nat.le_refl _,DD,GX⟩
    ·have ET:decide ((c1:Int)<(n:Int))=false:=by simp;omega
     have D:=BI.o.o C1.o (by rw [LN.o];exact cl)
     have DD:ag _:=D;clear D BI;go_wp2_with fail;go_quiet (fail);go_wp2_with fail;go_roundg (2-(0+1))
     case measure=>omega
     case rel=>exact ⟨f,0+1,rfl,by go_num,by omega,Nat.le_refl _,DD,(show ag _ from by repeat (first | exact GG.o | refine Gw.drew ?_ | refine Gw.drewN ?_ _))⟩
   ·by_cases cl:c2<n
    ·have ET:decide ((c2:Int)<(n:Int))=true:=by simpa using cl
     have fl:f<n:=by have:=BI.o.lt C2.o (by rw [LN.o];exact cl);rw [LN.o] at this;exact this
     have dr:=(eK EJ.o LN.o).2.2.2;obtain ⟨e0,e1,e2⟩:=dr c2 cl;obtain ⟨f0,f1,f2⟩:=dr f fl;clear dr;obtain ⟨x,hx⟩:∃ x,gt H c2=x:=⟨_,rfl⟩;obtain ⟨y,hy⟩:∃ y,gt H f=y:=⟨_,rfl⟩;have fJ:ag (iq x y=false->eT H a (1+1) f):=fun q=>BI.o.stay C2.o (by rw [hx,hy];exact Ea.1 q)
     have oa:ag (iq x y=true->eT H a (1+1) c2):=fun q=>BI.o.turn (by omega) C2.o (by rw [LN.o];exact cl) (by rw [hx,hy];exact zM.1 q)
     rw [hx] at e0 e1 e2;rw [hy] at f0 f1 f2;have AX:=AH.o x y;obtain ⟨ab,cO⟩:∃ ab,iq x y=ab:=⟨_,rfl⟩;rw [cO] at AX fJ oa;obtain ⟨xk,xi,⟨xb,xo,xc,xl⟩⟩:=x;obtain ⟨yk,yi,⟨yb,yo,yc,yl⟩⟩:=y;simp only [Hd.v,aB.v] at AX e2 f2;obtain ⟨xn,ir⟩:∃ m,xl.length=m:=⟨_,rfl⟩;obtain ⟨yn,fM⟩:∃ m,yl.length=m:=⟨_,rfl⟩;rw [ir] at AX e2;rw [fM] at AX f2;have tS:ag _:=AX;have HW:ag (∀ w',Gw wr w'->Gw wr w'/\w'.cell? ⟨hb,1,none⟩=some (.slice (some ⟨g,0,none⟩) n cap)/\w'.cell? ⟨g,c2*3,none⟩=some (.int .u64 xk)/\w'.cell? ⟨g,c2*3+1,none⟩=some (.int .i64 (xi:Int))/\w'.cell? ⟨g,c2*3+2,none⟩=some (.slice (some ⟨xb,xo,none⟩) xn xc)/\w'.cell? ⟨g,f*3,none⟩=some (.int .u64 yk)/\w'.cell? ⟨g,f*3+1,none⟩=some (.int .i64 (yi:Int))/\w'.cell? ⟨g,f*3+2,none⟩=some (.slice (some ⟨yb,yo,none⟩) yn yc)):=fun w' gg=>by
      have G':=GG.o.trans gg;have k:=fun o=>G'.cell g o gl
      exact ⟨gg,(gg.cell _ _ (Nat.lt_of_lt_of_le aX GG.o.size)).trans kE,(k _).trans e0,(k _).trans e1,(k _).trans e2,(k _).trans f0,(k _).trans f1,(k _).trans f2⟩
     clear hx hy cO ir fM AX e0 e1 e2 f0 f1 f2 kE BI;obtain ⟨wS,aZ⟩:∃ wx,wx=wr:=⟨_,rfl⟩;subst aZ;go_wp2_with fail;go_region_held3 (fun w'=>Gw wS w'/\w'.cell? ⟨hb,1,none⟩=some (.slice (some ⟨g,0,none⟩) n cap)/\w'.cell? ⟨g,c2*3,none⟩=some (.int .u64 xk)/\w'.cell? ⟨g,c2*3+1,none⟩=some (.int .i64 (xi:Int))/\w'.cell? ⟨g,c2*3+2,none⟩=some (.slice (some ⟨xb,xo,none⟩) xn xc)/\w'.cell? ⟨g,f*3,none⟩=some (.int .u64 yk)/\w'.cell? ⟨g,f*3+1,none⟩=some (.int .i64 (yi:Int))/\w'.cell? ⟨g,f*3+2,none⟩=some (.slice (some ⟨yb,yo,none⟩) yn yc))
      ((refine HW.o _ ?_;(repeat (first | exact Gw.refl _ | exact And.left (by assumption) | exact ag.o (by assumption) | refine Gw.drew ?_ | refine Gw.drewN ?_ _));done))
      ((go_at_call 150;refine (tS.o _).mono ?_;rintro ex u5 ⟨rfl,g5⟩;have G5:ag (Gw wS u5):=Gw.trans (by repeat (first | exact Gw.refl _ | exact And.left (by assumption) | exact ag.o (by assumption) | refine Gw.drew ?_ | refine Gw.drewN ?_ _)) g5;clear g5))
     have GX:ag _:=GG.o.trans G5.o;cases ab with
     | true =>
      have D:=oa.o rfl;have DD:ag _:=D;clear D fJ oa HW;go_wp2_with fail;go_roundg (2-(1+1))
      case measure=>omega
      case rel=>exact ⟨c2,1+1,rfl,by go_num,by omega,Nat.le_refl _,DD,GX⟩
     | false =>
      have D:=fJ.o rfl;have DD:ag _:=D;clear D fJ oa HW;go_wp2_with fail;go_roundg (2-(1+1))
      case measure=>omega
      case rel=>exact ⟨f,1+1,rfl,by go_num,by omega,Nat.le_refl _,DD,GX⟩
    ·have ET:decide ((c2:Int)<(n:Int))=false:=by simp;omega
     have D:=BI.o.o C2.o (by rw [LN.o];exact cl)
     have DD:ag _:=D;clear D BI;go_wp2_with fail;go_quiet (fail);go_wp2_with fail;go_roundg (2-(1+1))
     case measure=>omega
     case rel=>exact ⟨f,1+1,rfl,by go_num,by omega,Nat.le_refl _,DD,(show ag _ from by repeat (first | exact GG.o | refine Gw.drew ?_ | refine Gw.drewN ?_ _))⟩
  ·have ej:j=2:=by omega
   subst ej;have DN:ag _:=BI.o.done;clear BI;go_wp2_with fail;go_ret;exact ⟨⟨f,rfl,DN.o⟩,GG.o⟩
theorem abJ {α:Type} (hb a n g cap base:Nat) (kf pv:Value) (H:List (Hd α)) (hn:H.length=n) (gK:n<=4000000) (ha:a<n) (w:World) (hp:dY 173 176 w hb base kf (.slice (some ⟨g,0,none⟩) n cap) pv H) (hR:lD H a) :
  Calls prog 129 #[.pointer (some ⟨hb,0,none⟩),.int .i64 (a:Int)] w fun e w'=>e=.returned (.tuple #[])/\(∃ H',H'.Perm H/\bK H'/\HR 176 w' base (.slice (some ⟨g,0,none⟩) n cap) H')/\Gx (fun q=>q=g) w w':=by
 obtain ⟨hh,hr,ne⟩:=hp;have fW:g≠hb:=ne g rfl;have HB:ag _:=hh;have AH:ag (∀ (x y:Hd α) (W:World),Calls prog 150 #[x.v,y.v] W fun e w'=>e=.returned (.bool (iq x y))/\Gw W w'):=fun x y W=>Pn x y W
 have aX:hb<w.heap.size:=aE hh;have gl:g<w.heap.size:=(eK hr hn).2.2.1;have wI:=(eK hr hn).2.1;have R0:ag _:=hr;have EU:ag _:=hR;have LN:ag _:=hn;clear hh hr ne hR hn;go_enter func129,ntmps129;go_wp2_with fail;go_loopg [1] a (fun gg s1 wr=>∃ (b:Nat) (H':List (Hd α)),s1=.int .i64 (b:Int)/\b<n/\b<=gg/\ag (lD H' b/\H'.Perm H/\H'.length=n/\HR 176 wr base (.slice (some ⟨g,0,none⟩) n cap) H')/\ag (Gx (fun q=>q=g) w wr))
 case atStart=>exact ⟨a,H,rfl,ha,Nat.le_refl _,⟨EU.o,List.Perm.refl _,LN.o,R0.o⟩,Gx.refl _ _⟩
 case round =>
  obtain ⟨b,H',rfl,bn,bg,HH,GG⟩:=hrel;have kE:wr.heap[hb]?=some (.cells #[kf,.slice (some ⟨g,0,none⟩) n cap,pv] 173 (0,0)):=(GG.o.block _ aX (fun e=>fW e.symm)).trans HB.o
  have zX:ag _:=kE;by_cases b0:0<b
  ·have Cx:decide ((0:Int)<(b:Int))=true:=by simpa using b0
   obtain ⟨p,hp⟩:∃ p:Nat,p=b-1:=⟨_,rfl⟩;obtain ⟨u,hu⟩:∃ u:Nat,u=(b-1)/2:=⟨_,rfl⟩;have w1:IntKind.i64.wrap ((b:Int)-1)=(p:Int):=by rw [IntKind.wrap_i64];omega
   have w2:ag (wrap64 ((p:Int)/2)=(u:Int)):=by
    show _=_;have e:(p:Int)/2=(u:Int):=by omega
    rw [e];unfold wrap64;omega
   have un:u<n:=by omega
   have ub:u<b:=by omega
   have UE:ag _:=hu;obtain ⟨x,hx⟩:∃ x,gt H' b=x:=⟨_,rfl⟩;obtain ⟨y,hy⟩:∃ y,gt H' u=y:=⟨_,rfl⟩;have dr:=(eK HH.o.2.2.2 HH.o.2.2.1).2.2.2;obtain ⟨e0,e1,e2⟩:=dr b bn;obtain ⟨f0,f1,f2⟩:=dr u un;have fz:=(eK HH.o.2.2.2 HH.o.2.2.1).1;clear dr hp;rw [hx] at e0 e1 e2;rw [hy] at f0 f1 f2;have zY:ag (iq x y=false->bK H'):=fun q=>HH.o.1.done (.inr (by rw [<-UE.o,hx,hy];exact Ea.1 q))
   have zZ:ag (iq x y=true->lD (swp H' b u) u):=fun q=>by
    have:=HH.o.1.step (by rw [HH.o.2.2.1];exact bn) b0 (by rw [<-UE.o,hx,hy];exact zM.1 q)
    rw [<-UE.o] at this;exact this
   have wK:ag ((swp H' b u).Perm H/\(swp H' b u).length=n):=⟨(Oj H' (by rw [HH.o.2.2.1];exact bn) (by rw [HH.o.2.2.1];exact un)).trans HH.o.2.1,by rw [tM];exact HH.o.2.2.1⟩
   have z7:ag (∀ W',HR 176 W' base (.slice (some ⟨g,0,none⟩) n cap) H'->_):=fun W' h=>OD h HH.o.2.2.1 bn un (by omega) hx hy
   have AX:=AH.o x y;obtain ⟨ab,cO⟩:∃ ab,iq x y=ab:=⟨_,rfl⟩;rw [cO] at AX zY zZ;obtain ⟨xk,xi,⟨xb,xo,xc,xl⟩⟩:=x;obtain ⟨yk,yi,⟨yb,yo,yc,yl⟩⟩:=y;simp only [Hd.v,aB.v] at AX e2 f2;obtain ⟨xn,ir⟩:∃ m,xl.length=m:=⟨_,rfl⟩;obtain ⟨yn,fM⟩:∃ m,yl.length=m:=⟨_,rfl⟩;rw [ir] at AX e2;rw [fM] at AX f2;simp only [jL,aB.v,ir,fM] at z7;have tS:ag _:=AX;have tT:hb<wr.heap.size:=aE kE;have gr:g<wr.heap.size:=(eK HH.o.2.2.2 HH.o.2.2.1).2.2.1;have HW:ag (∀ w',Gw wr w'->Gw wr w'/\w'.cell? ⟨hb,1,none⟩=some (.slice (some ⟨g,0,none⟩) n cap)/\w'.cell? ⟨g,b*3,none⟩=some (.int .u64 xk)/\w'.cell? ⟨g,b*3+1,none⟩=some (.int .i64 (xi:Int))/\w'.cell? ⟨g,b*3+2,none⟩=some (.slice (some ⟨xb,xo,none⟩) xn xc)/\w'.cell? ⟨g,u*3,none⟩=some (.int .u64 yk)/\w'.cell? ⟨g,u*3+1,none⟩=some (.int .i64 (yi:Int))/\w'.cell? ⟨g,u*3+2,none⟩=some (.slice (some ⟨yb,yo,none⟩) yn yc)):=fun w' gg=>by
    have k:=fun o=>gg.cell g o gr
    exact ⟨gg,(gg.cell _ _ tT).trans (aD kE rfl),(k _).trans e0,(k _).trans e1,(k _).trans e2,(k _).trans f0,(k _).trans f1,(k _).trans f2⟩
   clear hx hy cO ir fM AX e0 e1 e2 f0 f1 f2 kE fz hu;obtain ⟨wS,aZ⟩:∃ wx,wx=wr:=⟨_,rfl⟩;subst aZ;go_wp2_with fail;rw [w2.o];go_region_held3 (fun w'=>Gw wS w'/\w'.cell? ⟨hb,1,none⟩=some (.slice (some ⟨g,0,none⟩) n cap)/\w'.cell? ⟨g,b*3,none⟩=some (.int .u64 xk)/\w'.cell? ⟨g,b*3+1,none⟩=some (.int .i64 (xi:Int))/\w'.cell? ⟨g,b*3+2,none⟩=some (.slice (some ⟨xb,xo,none⟩) xn xc)/\w'.cell? ⟨g,u*3,none⟩=some (.int .u64 yk)/\w'.cell? ⟨g,u*3+1,none⟩=some (.int .i64 (yi:Int))/\w'.cell? ⟨g,u*3+2,none⟩=some (.slice (some ⟨yb,yo,none⟩) yn yc))
    ((refine HW.o _ ?_;(repeat (first | exact Gw.refl _ | exact And.left (by assumption) | exact ag.o (by assumption) | refine Gw.drew ?_ | refine Gw.drewN ?_ _));done))
    ((go_at_call 150;refine (tS.o _).mono ?_;rintro ex u5 ⟨rfl,g5⟩;have G5:ag (Gw wS u5):=Gw.trans (by repeat (first | exact Gw.refl _ | exact And.left (by assumption) | exact ag.o (by assumption) | refine Gw.drew ?_ | refine Gw.drewN ?_ _)) g5;clear g5))
   obtain ⟨_,t0,t1,t2,t3,t4,t5,t6⟩:=HW.o u5 G5.o;have RX:ag _:=tN HH.o.2.2.2 G5.o;have GX:ag _:=GG.o.tw G5.o;have fz:=(eK RX.o HH.o.2.2.1).1;cases ab with
   | false =>
    have D:=zY.o rfl;have DD:ag _:=D;clear D zY zZ HW z7;go_wp2_with fail;refine bodyPost_ret (results_none rfl _ _ _) rfl ?_;exact ⟨rfl,⟨H',HH.o.2.1,DD.o,RX.o⟩,GX.o⟩
   | true =>
    have D:=zZ.o rfl;have DD:ag _:=D;obtain ⟨W1,W2,E1,E2,RY,kp,oh,⟨r0,r1,r2⟩,g2⟩:=z7.o u5 RX.o;have EW:ag _:=RY;have G2:ag _:=GX.o.trans g2 (fun q hq=>.inl hq)
    have zJ:W1.cell? ⟨hb,1,none⟩=some (.slice (some ⟨g,0,none⟩) n cap):=by
     have e:W1.heap[hb]?=u5.heap[hb]?:=kp hb (fun e=>fW e.symm)
     rw [World.cell?_of_block e];exact t0
    have Pp:=fz (b*3);have Pr:=fz (b*3+1);have Ps:=fz (b*3+2);have fz3:=oh (u*3);have fz4:=oh (u*3+1);have fz5:=oh (u*3+2);clear fz oh D zY zZ HW z7 tS kp RY g2;have EY:hb≠g:=fun e=>fW e.symm
    go_wp2_with fail;go_big_region
    go_wp2_with fail;go_roundg u
    case measure=>omega
    case rel=>exact ⟨u,swp H' b u,rfl,un,Nat.le_refl _,⟨DD.o,wK.o.1,wK.o.2,EW.o⟩,(show ag _ from G2.o.drew)⟩
  ·have Cx:decide ((0:Int)<(b:Int))=false:=by simp;omega
   have DD:ag _:=HH.o.1.done (.inl (by omega))
   go_wp2_with fail;go_end0
   exact ⟨rfl,⟨H',HH.o.2.1,DD.o,HH.o.2.2.2⟩,GG.o⟩
theorem abK {α:Type} (hb a n g cap base:Nat) (kf pv:Value) (H:List (Hd α)) (hn:H.length=n) (gK:n<=4000000) (ha:a<=n) (w:World) (hp:dY 173 176 w hb base kf (.slice (some ⟨g,0,none⟩) n cap) pv H) (hR:nZ H a) :
  Calls prog 130 #[.pointer (some ⟨hb,0,none⟩),.int .i64 (a:Int)] w fun e w'=>e=.returned (.tuple #[])/\(∃ H',H'.Perm H/\bK H'/\HR 176 w' base (.slice (some ⟨g,0,none⟩) n cap) H')/\Gx (fun q=>q=g) w w':=by
 obtain ⟨hh,hr,ne⟩:=hp;have fW:g≠hb:=ne g rfl;have HB:ag _:=hh;have BL:ag (∀ (a:Nat) (H:List (Hd α)) (W:World),H.length=n->a<=4000000->W.heap[hb]?=some (.cells #[kf,.slice (some ⟨g,0,none⟩) n cap,pv] 173 (0,0))->HR 176 W base (.slice (some ⟨g,0,none⟩) n cap) H->Calls prog 151 #[.pointer (some ⟨hb,0,none⟩),.int .i64 (a:Int)] W fun e w'=>(∃ d:Nat,e=.returned (.int .i64 (d:Int))/\Eb H a d)/\Gw W w'):=fun a H W h1 h2 h3 h4=>abI hb a n g cap base kf pv H h1 gK h2 W h3 h4
 have aX:hb<w.heap.size:=aE hh;have wI:=(eK hr hn).2.1;have R0:ag _:=hr;have EU:ag _:=hR;have LN:ag _:=hn;clear hh hr ne hR hn;go_enter func130,ntmps130;go_wp2_with fail;go_loopg [1] (n-a) (fun gg s1 wr=>∃ (b:Nat) (H':List (Hd α)),s1=.int .i64 (b:Int)/\b<=n/\n-b<=gg/\ag (nZ H' b/\H'.Perm H/\H'.length=n/\HR 176 wr base (.slice (some ⟨g,0,none⟩) n cap) H')/\ag (Gx (fun q=>q=g) w wr))
 case atStart=>exact ⟨a,H,rfl,ha,Nat.le_refl _,⟨EU.o,List.Perm.refl _,LN.o,R0.o⟩,Gx.refl _ _⟩
 case round =>
  obtain ⟨b,H',rfl,bn,bg,HH,GG⟩:=hrel;have kE:wr.heap[hb]?=some (.cells #[kf,.slice (some ⟨g,0,none⟩) n cap,pv] 173 (0,0)):=(GG.o.block _ aX (fun e=>fW e.symm)).trans HB.o
  have zX:ag _:=kE;clear kE;go_wp2_with fail;refine (BL.o b H' _ HH.o.2.2.1 (by omega) zX.o HH.o.2.2.2).mono ?_
  rintro ex u5 ⟨⟨d,rfl,hd⟩,g5⟩;have HD:ag _:=hd;have RX:ag _:=tN HH.o.2.2.2 g5;have GX:ag _:=GG.o.tw g5;have HB5:ag (u5.heap[hb]?=some (.cells #[kf,.slice (some ⟨g,0,none⟩) n cap,pv] 173 (0,0))):=(g5.below.block _ (aE zX.o)).trans zX.o;clear hd g5;by_cases db:d=b
  ·subst db
   have db':((d:Int) == (d:Int))=true:=by simp
   have DD:ag (bK H'):=HH.o.1.done (by
    rcases HD.o with q | q
    ·exact q.2
    ·exact absurd q.1 (Nat.lt_irrefl _))
   go_wp2_with fail;refine bodyPost_ret (results_none rfl _ _ _) rfl ?_
   exact ⟨rfl,⟨H',HH.o.2.1,DD.o,RX.o⟩,GX.o⟩
  ·have db':((d:Int) == (b:Int))=false:=by simp;omega
   have rA:ag (b<d/\d<H'.length/\(d-1)/2=b/\(gt H' d).lt (gt H' b)/\∀ c,0<c->c<H'.length->(c-1)/2=b->¬ (gt H' c).lt (gt H' d)):=by
    rcases HD.o with q | q
    ·exact absurd q.1 db
    ·exact q
   have dn:d<n:=by have:=rA.o.2.1;rw [HH.o.2.2.1] at this;exact this
   have bd:b<d:=rA.o.1;have E8:b<n:=by omega
   have DD:ag _:=HH.o.1.step bd rA.o.2.1 rA.o.2.2.1 rA.o.2.2.2.1 rA.o.2.2.2.2;have wK:ag ((swp H' b d).Perm H/\(swp H' b d).length=n):=⟨(Oj H' (by rw [HH.o.2.2.1];exact E8) rA.o.2.1).trans HH.o.2.1,by rw [tM];exact HH.o.2.2.1⟩
   obtain ⟨x,hx⟩:∃ x,gt H' b=x:=⟨_,rfl⟩;obtain ⟨y,hy⟩:∃ y,gt H' d=y:=⟨_,rfl⟩;have dr:=(eK RX.o HH.o.2.2.1).2.2.2;have fz:=(eK RX.o HH.o.2.2.1).1;obtain ⟨e0,e1,e2⟩:=dr b E8;obtain ⟨f0,f1,f2⟩:=dr d dn;obtain ⟨W1,W2,E1,E2,RY,kp,oh,⟨r0,r1,r2⟩,g2⟩:=OD RX.o HH.o.2.2.1 E8 dn (by omega) hx hy
   rw [hx] at e0 e1 e2;rw [hy] at f0 f1 f2;have EW:ag _:=RY;have G2:ag _:=GX.o.trans g2 (fun q hq=>.inl hq)
   have t0:u5.cell? ⟨hb,1,none⟩=some (.slice (some ⟨g,0,none⟩) n cap):=aD HB5.o rfl;have zJ:W1.cell? ⟨hb,1,none⟩=some (.slice (some ⟨g,0,none⟩) n cap):=by
    have e:W1.heap[hb]?=u5.heap[hb]?:=kp hb (fun e=>fW e.symm)
    rw [World.cell?_of_block e];exact t0
   have Pp:=fz (b*3);have Pr:=fz (b*3+1);have Ps:=fz (b*3+2);have fz3:=oh (d*3);have fz4:=oh (d*3+1);have fz5:=oh (d*3+2);obtain ⟨xk,xi,⟨xb,xo,xc,xl⟩⟩:=x;obtain ⟨yk,yi,⟨yb,yo,yc,yl⟩⟩:=y;simp only [jL,aB.v] at e2 f2 E1 E2 r2;obtain ⟨xn,ir⟩:∃ m,xl.length=m:=⟨_,rfl⟩;obtain ⟨yn,fM⟩:∃ m,yl.length=m:=⟨_,rfl⟩;rw [ir] at e2 E2;rw [fM] at f2 E1 r2;clear fz oh kp RY g2 hx hy dr ir fM BL;have EY:hb≠g:=fun e=>fW e.symm
   go_wp2_with fail;go_big_region
   go_wp2_with fail;go_roundg (n-d)
   case measure=>omega
   case rel=>exact ⟨d,swp H' b d,rfl,by omega,Nat.le_refl _,⟨DD.o,wK.o.1,wK.o.2,EW.o⟩,(show ag _ from G2.o.drew)⟩
theorem abL {α:Type} (hb n g cap base:Nat) (kf pv:Value) (H:List (Hd α)) (hn:H.length=n) (h1:1<=n) (gK:n<=4000000) (w:World) (hp:dY 173 176 w hb base kf (.slice (some ⟨g,0,none⟩) n cap) pv H) (hH:bK H) :
  Calls prog 110 #[.pointer (some ⟨hb,0,none⟩)] w fun e w'=>e=.returned (gt H 0).v/\(∃ H',(gt H 0::H').Perm H/\bK H'/\H'.length=n-1/\dY 173 176 w' hb base kf (.slice (some ⟨g,0,none⟩) (n-1) cap) pv H')/\Gx (fun q=>q=hb\/q=g) w w':=by
 obtain ⟨hh,hr,ne⟩:=hp;have fW:g≠hb:=ne g rfl;have EY:hb≠g:=fun e=>fW e.symm
 obtain ⟨m,hm⟩:∃ m:Nat,m=n-1:=⟨_,rfl⟩;have w1:IntKind.i64.wrap ((n:Int)-1)=(m:Int):=by rw [IntKind.wrap_i64];omega
 have aX:hb<w.heap.size:=aE hh;have gl:g<w.heap.size:=(eK hr hn).2.2.1;have wI:=(eK hr hn).2.1;have mn:m<n:=by omega
 have mc:m<=cap:=by omega
 have cz:¬ cap=0:=by omega
 have HB:ag _:=hh;have R0:ag _:=hr;have LN:ag (H.length=n):=hn;have MN:ag (m=n-1):=hm;have Pt:w.cell? ⟨hb,1,none⟩=some (.slice (some ⟨g,0,none⟩) n cap):=aD hh rfl;obtain ⟨x,hx⟩:∃ x,gt H 0=x:=⟨_,rfl⟩;obtain ⟨y,hy⟩:∃ y,gt H m=y:=⟨_,rfl⟩;have HH:ag (bK H):=hH;have SK:ag (∀ (H:List (Hd α)) (W:World),H.length=m->dY 173 176 W hb base kf (.slice (some ⟨g,0,none⟩) m cap) pv H->nZ H 0->Calls prog 130 #[.pointer (some ⟨hb,0,none⟩),.int .i64 0] W fun e w'=>e=.returned (.tuple #[])/\(∃ H',H'.Perm H/\bK H'/\HR 176 w' base (.slice (some ⟨g,0,none⟩) m cap) H')/\Gx (fun q=>q=g) W w'):=fun H W h1 h2 h3=>abK hb 0 m g cap base kf pv H h1 (by omega) (Nat.zero_le _) W h2 h3
 have XV:ag _:=hx;have YV:ag _:=hy;obtain ⟨xk,xi,⟨xb,xo,xc,xl⟩⟩:=x;obtain ⟨yk,yi,⟨yb,yo,yc,yl⟩⟩:=y;obtain ⟨xn,ir⟩:∃ m,xl.length=m:=⟨_,rfl⟩;obtain ⟨yn,fM⟩:∃ m,yl.length=m:=⟨_,rfl⟩;have XN:ag _:=ir;have YN:ag _:=fM;have dr:=(eK hr hn).2.2.2;obtain ⟨e0,e1,e2⟩:=dr 0 (by omega)
 rw [hx] at e0 e1 e2;simp only [Nat.zero_mul,Nat.zero_add,aB.v,ir] at e0 e1 e2;have RET:ag ((gt H 0).v=.agg #[.int .u64 xk,.int .i64 (xi:Int),.slice (some ⟨xb,xo,none⟩) xn xc]):=by
  show _=_;rw [XV.o,<-XN.o];rfl
 rw [RET.o];clear hh hr ne hn dr hx hy ir fM hH hm;go_enter func110,ntmps110;go_wp2_with fail;obtain ⟨N,hN⟩:∃ N,w.heap.size=N:=⟨_,rfl⟩;obtain ⟨W2,pD⟩:∃ W2,(w.alloc (.cells #[.int .u64 0,.int .i64 0,.slice none 0 0] 176)).alloc (.cells #[.int .u64 xk,.int .i64 (xi:Int),.slice (some ⟨xb,xo,none⟩) xn xc] 176)=W2:=⟨_,rfl⟩;have G2:ag (Gw w W2):=by rw [<-pD];exact ((Gw.refl w).alloc _ _).alloc _ _
 have b0:W2.heap[N]?=some (.cells #[.int .u64 0,.int .i64 0,.slice none 0 0] 176 (0,0)):=by
  rw [<-pD,<-hN];exact (heap_alloc_old _ _ (by simp)).trans (heap_alloc_new w _)
 have b1:W2.heap[N+1]?=some (.cells #[.int .u64 xk,.int .i64 (xi:Int),.slice (some ⟨xb,xo,none⟩) xn xc] 176 (0,0)):=by
  rw [<-pD,<-hN];have:=heap_alloc_new (w.alloc (.cells #[.int .u64 0,.int .i64 0,.slice none 0 0] 176)) (.cells #[.int .u64 xk,.int .i64 (xi:Int),.slice (some ⟨xb,xo,none⟩) xn xc] 176);simpa using this
 have B0:ag _:=b0;have B1:ag _:=b1;rw [pD,hN];have R2:=tN R0.o G2.o;have wL:=(G2.o.below.block _ aX).trans HB.o;have n1:N+1<W2.heap.size:=aE b1;obtain ⟨W3,W4,E3,E4,q1,q2,Pu,g4⟩:=abk R2 LN.o h1 MN.o fW wL YV.o;have z8:ag _:=Pu;have G4:ag (Gx (fun q=>q=hb\/q=g) w W4):=(G2.o.gx _).trans g4 (fun q hq=>.inl hq)
 have Aa:ag (N+1<W4.heap.size/\W4.heap[N]?=some (.cells #[.int .u64 0,.int .i64 0,.slice none 0 0] 176 (0,0))/\W4.heap[N+1]?=some (.cells #[.int .u64 xk,.int .i64 (xi:Int),.slice (some ⟨xb,xo,none⟩) xn xc] 176 (0,0))) :=
  ⟨Nat.lt_of_lt_of_le n1 g4.size,(g4.block _ (by omega) (by omega)).trans b0,(g4.block _ n1 (by omega)).trans b1⟩
 have c2:W2.cell? ⟨hb,1,none⟩=some (.slice (some ⟨g,0,none⟩) n cap):=aD wL rfl;have dr:=(eK R2 LN.o).2.2.2;have fz:=(eK R2 LN.o).1;obtain ⟨f0,f1,f2⟩:=dr m mn;obtain ⟨d0,d1,d2⟩:=dr 0 (by omega)
 rw [XV.o] at d0 d1 d2;rw [YV.o] at f0 f1 f2;simp only [Nat.zero_mul,Nat.zero_add,aB.v,XN.o] at d0 d1 d2;simp only [jL,Nat.zero_add,aB.v,YN.o] at f2 E3;have Pp:=fz 0;have Pr:=fz 1;have Ps:=fz 2;have gN:ag (g<N/\hb<N/\w.heap.size<=N):=⟨by omega,by omega,by omega⟩
 clear pD hN dr fz R2 wL b0 b1 g4 Pu e0 e1 e2 Pt;go_wp2_with fail;go_big_region;go_wp2_with fail;refine (SK.o (lE H) W4.drew (by rw [Ec,LN.o];exact MN.o.symm) ⟨z8.o.blk,z8.o.row,z8.o.ne⟩ (HH.o.cut (by rw [LN.o];exact h1))).mono ?_
 rintro ex u6 ⟨rfl,⟨H',p1,p2,p3⟩,g6⟩;have PF:ag ((gt H 0::H').Perm H/\bK H'/\H'.length=n-1):=⟨((List.Perm.cons _ p1).trans (abc H (by rw [LN.o];exact h1)).symm),p2,by have:=p1.length_eq;rw [Ec,LN.o] at this;exact this⟩
 have wN:Gx (fun q=>q=g) W4 u6:=⟨g6.os,g6.tape,g6.output,g6.size,g6.block⟩
 have oW:hb<W4.heap.size:=Nat.lt_of_lt_of_le aX G4.o.size;have m1:u6.heap[N+1]?=some (.cells #[.int .u64 xk,.int .i64 (xi:Int),.slice (some ⟨xb,xo,none⟩) xn xc] 176 (0,0)):=(wN.block _ Aa.o.1 (by have:=gN.o;omega)).trans Aa.o.2.2
 have m0:u6.heap[N]?=some (.cells #[.int .u64 0,.int .i64 0,.slice none 0 0] 176 (0,0)):=(wN.block _ (by have:=Aa.o.1;omega) (by have:=gN.o;omega)).trans Aa.o.2.1
 have mb:u6.heap[hb]?=some (.cells #[kf,.slice (some ⟨g,0,none⟩) m cap,pv] 173 (0,0)):=(wN.block _ oW EY).trans z8.o.blk;have k0:=aD (o:=0) m1 rfl;have k1:=aD (o:=1) m1 rfl;have k2:=aD (o:=2) m1 rfl;have j0:=aD (o:=0) m0 rfl;have j1:=aD (o:=1) m0 rfl;have j2:=aD (o:=2) m0 rfl;have jf:=fun o=>dR (o:=o) m0
 have jf0:=jf 0;have jf1:=jf 1;have jf2:=jf 2;have aJ:ag (∀ W9,((u6.setCell ⟨N,0,none⟩ (.int .u64 xk)).setCell ⟨N,1,none⟩ (.int .i64 (xi:Int))).setCell ⟨N,2,none⟩ (.slice (some ⟨xb,xo,none⟩) xn xc)=W9->(∃ H',(gt H 0::H').Perm H/\bK H'/\H'.length=n-1/\dY 173 176 W9 hb base kf (.slice (some ⟨g,0,none⟩) (n-1) cap) pv H')/\Gx (fun q=>q=hb\/q=g) w W9):=fun W9 e9=>by
  have nw:w.heap.size<=N:=gN.o.2.2;have kp:∀ q,q≠N->W9.heap[q]?=u6.heap[q]?:=fun q hq=>by
   rw [<-e9,Go.Deep.blk_setCell_other _ _ _ _ hq,Go.Deep.blk_setCell_other _ _ _ _ hq,Go.Deep.blk_setCell_other _ _ _ _ hq]
  refine ⟨⟨H',PF.o.1,PF.o.2.1,PF.o.2.2,⟨?_,?_,fun q hq=>by cases hq;exact fW⟩⟩,?_⟩
  ·rw [<-MN.o];exact (kp hb (by have:=gN.o;omega)).trans mb
  ·rw [<-MN.o];exact kC p3 fun q hq=>kp q (by cases hq;show g≠N;have:=gN.o;omega)
  ·rw [<-e9]
   exact ((((G4.o.trans wN (fun q hq=>.inl (.inr hq))).set (.inr nw) _ _).set (.inr nw) _ _).set (.inr nw) _ _)
 obtain ⟨W9,e9⟩:∃ W9,((u6.setCell ⟨N,0,none⟩ (.int .u64 xk)).setCell ⟨N,1,none⟩ (.int .i64 (xi:Int))).setCell ⟨N,2,none⟩ (.slice (some ⟨xb,xo,none⟩) xn xc)=W9:=⟨_,rfl⟩;have FF:ag _:=aJ.o W9 e9;have b9:W9.heap[N]?=some (.cells #[.int .u64 xk,.int .i64 (xi:Int),.slice (some ⟨xb,xo,none⟩) xn xc] 176 (0,0)):=by
  rw [<-e9];have:=lF (o:=2) (lF (o:=1) (lF (o:=0) m0 (.int .u64 xk)) (.int .i64 (xi:Int))) (.slice (some ⟨xb,xo,none⟩) xn xc);simpa using this
 have y0:=aD (o:=0) b9 rfl;have y1:=aD (o:=1) b9 rfl;have y2:=aD (o:=2) b9 rfl;clear aJ m0 m1 mb p1 p2 p3 g6 wN jf b9 SK;go_wp2_with fail;refine bodyPost_ret (v:=.agg #[.int .u64 xk,.int .i64 (xi:Int),.slice (some ⟨xb,xo,none⟩) xn xc]) (by simp [results,results110,go_sem,y0,y1,y2]) rfl ⟨rfl,FF.o⟩
theorem Pv:(prog.info? 176).map (fun i=>(i.zero,i.size,i.bytes))=some (some (.agg #[.int .u64 0,.int .i64 0,.slice none 0 0]),3,40):=by kernel_rfl
theorem Pw (hb n base K i:Nat) (hv pv:Value) (H:List (Hd ah)) (s:aB ah) (key:ah->Int) (FK:zP fU key ah.ok K) (hn:H.length=n) (gK:n<=3000000) (hi:i<=4000000) (w:World) (hp:dY 173 176 w hb base (.func (.func K) #[] #[]) hv pv H) (rq:base<=hb+1) (hH:bK H) (sl:s.l.length<=4000000) (ao:Option Addr) (sc:Nat) (hs:0<s.l.length->ao=some ⟨s.b,s.off,none⟩/\sc=s.c/\s.l.length<=s.c/\s.b<w.heap.size) (El:fV w s) (Ab:∀ x∈s.l,ah.ok x) :
  Calls prog 109 #[.pointer (some ⟨hb,0,none⟩),.int .i64 (i:Int),.slice ao s.l.length sc] w fun e w'=>e=.returned (.tuple #[])/\(∃ aO H',H'.Perm (H++da key i s)/\bK H'/\dY 173 176 w' hb base (.func (.func K) #[] #[]) aO pv H'/\(∀ q,aO.ownBlock=some q->hv.ownBlock=some q\/w.heap.size<=q))/\Gx (fun q=>q=hb\/hv.ownBlock=some q) w w':=by
 obtain ⟨sb,so,scc,l⟩:=s;cases l with
 | nil =>
  have HP:ag _:=hp;have HH:ag (bK H):=hH;clear hp hH FK El Ab hs;dsimp only [List.length_nil];go_enter func109,ntmps109;go_wp2_with fail;refine bodyPost_ret (results_none rfl _ _ _) rfl ?_;exact ⟨rfl,⟨hv,H,by simp [da],HH.o,HP.o,fun q hq=>.inl hq⟩,Gx.refl _ _⟩
 | cons x l =>
  obtain ⟨Ac,lB,bP,lA⟩:=hs (by simp)
  dsimp only at Ac lB bP lA sl El Ab ⊢;subst Ac lB;clear hs;obtain ⟨m,hm⟩:∃ m,(x::l).length=m:=⟨_,rfl⟩;rw [hm];have m0:0<m:=by rw [<-hm];simp
  have ms:m<=4000000:=by rw [<-hm];exact sl
  have OK:ag _:=Ab x (List.mem_cons_self ..);have Px:ag _:=El;obtain ⟨hh,hr,ne⟩:=hp;have aX:hb<w.heap.size:=aE hh;have HB:ag _:=hh;have R0:ag _:=hr;have NE:ag _:=ne;have LN:ag _:=hn;have HH:ag (bK H):=hH;have XH:ag ((⟨key x,i,⟨sb,so,sc,x::l⟩⟩:Hd ah)=⟨key x,i,⟨sb,so,sc,x::l⟩⟩):=rfl;have HD:ag (da key i (⟨sb,so,sc,x::l⟩:aB ah)=[⟨key x,i,⟨sb,so,sc,x::l⟩⟩]):=rfl;obtain ⟨hx,HX⟩:∃ h:Hd ah,ag (h=⟨key x,i,⟨sb,so,sc,x::l⟩⟩):=⟨_,rfl⟩;obtain ⟨ii,aM,hz,bZ,aL⟩:=info_parts Pv;obtain ⟨kx,Py⟩:∃ k,key x=k:=⟨_,rfl⟩;have KX:ag _:=Py;have NW:ag (∀ W:World,∀ j u,(ct hx)[j]?=some u->(W.alloc (.cells #[.int .u64 kx,.int .i64 (i:Int),.slice (some ⟨sb,so,none⟩) m sc] 176)).cell? ((⟨W.heap.size,0,none⟩:Addr).add j)=some u):=fun W=>by
   have:=Oy 176 W hx
   rw [HX.o] at this ⊢;rw [<-KX.o,<-hm];exact this
  have KC:ag (∀ W:World,Calls prog K #[fU x] W fun e w'=>e=.returned (.int .u64 kx)/\Gw W w'):=fun W=>by
   have:=FK.tells W x OK.o
   rw [KX.o] at this;exact this
  have ENT:=FK.enter;have RS:ag (∀ (m:Nat) (g cap:Nat) (H:List (Hd ah)) (W:World),H.length=m+1->m+1<=4000000->dY 173 176 W hb base (.func (.func K) #[] #[]) (.slice (some ⟨g,0,none⟩) (m+1) cap) pv H->lD H m->Calls prog 129 #[.pointer (some ⟨hb,0,none⟩),.int .i64 (m:Int)] W fun e w'=>e=.returned (.tuple #[])/\(∃ H',H'.Perm H/\bK H'/\HR 176 w' base (.slice (some ⟨g,0,none⟩) (m+1) cap) H')/\Gx (fun q=>q=g) W w'):=fun m g cap H W h1 h2 h3 h4=>abJ hb m (m+1) g cap base _ pv H h1 h2 (by omega) W h3 h4
  have c0:w.cell? ⟨hb,0,none⟩=some (.func (.func K) #[] #[]):=aD hh rfl;have c1:w.cell? ⟨hb,1,none⟩=some hv:=aD hh rfl;have tU:ag (∀ (W:World) (v':Value) (w7:World),Gw w W->w7.ownsRow base 176 3 v' (n+1) (H.flatMap ct++ct hx)->(W.alloc (.cells #[.int .u64 kx,.int .i64 (i:Int),.slice (some ⟨sb,so,none⟩) m sc] 176)).grownBy w7 hv.ownBlock->(v'.ownBlock=hv.ownBlock\/v'.ownBlock=some (W.heap.size+1)) ->
    (w7.heap[hb]?=some (.cells #[.func (.func K) #[] #[],hv,pv] 173 (0,0))/\hb<w7.heap.size)/\dY 173 176 (w7.setCell ⟨hb,1,none⟩ v') hb base (.func (.func K) #[] #[]) v' pv (H++[hx])/\Gx (fun q=>q=hb\/hv.ownBlock=some q) w (w7.setCell ⟨hb,1,none⟩ v')/\(∀ q,v'.ownBlock=some q->hv.ownBlock=some q\/w.heap.size<=q)):=fun W v' w7 gW r1 r2 r4=>by
   have b7:w7.heap[hb]?=some (.cells #[.func (.func K) #[] #[],hv,pv] 173 (0,0)):=(r2.block hb (by have:=gW.size;simp;omega) (fun e=>NE.o hb e.symm rfl)).trans ((heap_alloc_old _ _ (Nat.lt_of_lt_of_le aX gW.size)).trans ((gW.below.block hb aX).trans HB.o))
   have nv:∀ q,v'.ownBlock=some q->hv.ownBlock=some q\/w.heap.size<=q:=fun q hq=>by
    rcases r4 with e | e
    ·rw [e] at hq;exact .inl hq
    ·rw [e] at hq;cases hq;have:=gW.size;exact .inr (by omega)
   have ne':∀ q,v'.ownBlock=some q->q≠hb:=fun q hq=>by
    rcases nv q hq with e | e
    ·exact NE.o q e
    ·omega
   refine ⟨⟨b7,aE b7⟩,⟨lF b7 _,?_,ne'⟩,?_,nv⟩
   ·refine kC (Ow (by rw [LN.o];exact r1)) fun q hq=>Go.Deep.blk_setCell_other _ _ _ _ (ne' q hq)
   ·exact (((gW.alloc _ _).gx _).grown r2 (fun q hq=>.inl (.inr hq))).set (.inl (Or.inl rfl)) _ _
  have OW:ag (∀ W:World,Gw w W->∀ o:Obj,(W.alloc o).ownsRow base 176 3 hv n (H.flatMap ct)):=fun W gW o=>by
   have:=tN R0.o gW
   unfold HR at this;rw [LN.o] at this;exact this.alloc _
  have RI:ag (lD (H++[hx]) n):=by
   have:=HH.o.app hx
   rw [LN.o] at this;exact this
  have aJ:ag (∀ (b8 cap8:Nat) (W8 u9:World) (H':List (Hd ah)),dY 173 176 W8 hb base (.func (.func K) #[] #[]) (.slice (some ⟨b8,0,none⟩) (n+1) cap8) pv (H++[hx])->Gx (fun q=>q=hb\/hv.ownBlock=some q) w W8->(∀ q,(Value.slice (some ⟨b8,0,none⟩) (n+1) cap8).ownBlock=some q->hv.ownBlock=some q\/w.heap.size<=q)->H'.Perm (H++[hx])->bK H'->HR 176 u9 base (.slice (some ⟨b8,0,none⟩) (n+1) cap8) H'->Gx (fun q=>q=b8) W8 u9 ->
    (∃ aO H',H'.Perm (H++[hx])/\bK H'/\dY 173 176 u9 hb base (.func (.func K) #[] #[]) aO pv H'/\(∀ q,aO.ownBlock=some q->hv.ownBlock=some q\/w.heap.size<=q))/\Gx (fun q=>q=hb\/hv.ownBlock=some q) w u9):=fun b8 cap8 W8 u9 H' h1 h2 h3 h4 h5 h6 h7=>by
   have rC:=h1.ne b8 rfl;refine ⟨⟨_,H',h4,h5,⟨(h7.block hb (aE h1.blk) (fun e=>rC e.symm)).trans h1.blk,h6,h1.ne⟩,h3⟩,h2.trans h7 (fun q hq=>?_)⟩
   have rz:q=b8:=hq;subst rz;rcases h3 q rfl with e | e
   ·exact .inl (.inr e)
   ·exact .inr e
  rw [show da key i (⟨sb,so,sc,x::l⟩:aB ah)=[hx] by rw [HX.o];rfl]
  obtain ⟨xk,xv,xg⟩:=x;simp only [fU] at KC;obtain ⟨d0,d1,d2⟩:w.cell? ⟨sb,so,none⟩=some (.int .u64 xk)/\w.cell? ⟨sb,so+1,none⟩=some (.int .u64 xv)/\w.cell? ⟨sb,so+2,none⟩=some (.bool xg):=by
   have:=Px.o 0 _ rfl
   simpa using this
  have HL:ag ((H++[hx]).length=n+1):=by show _=_;rw [List.length_append,LN.o];rfl
  clear hh hr ne hn hH El Ab sl Py Px R0 NE;go_enter func109,ntmps109;have t0:((m:Int) == 0)=false:=by simp;omega
  have nl1:IntKind.i64.wrap (((n+1:Nat):Int)-1)=(n:Int):=by rw [IntKind.wrap_i64];omega
  have nl2:IntKind.i64.wrap ((n:Int)+1-1)=(n:Int):=by rw [IntKind.wrap_i64];omega
  clear hm;go_wp2_with fail;go_region_law (first
   | (go_simp;refine (KC.o _).mono ?_;rintro e w4 ⟨rfl,g4⟩;have G4:ag (Gw w w4):=((Gw.refl w).drew.trans g4);have k4:w4.cell? ⟨hb,1,none⟩=some hv:=(g4.cell _ _ aX).trans c1;have l4:hb<w4.heap.size:=Nat.lt_of_lt_of_le aX g4.size;clear g4)
   | (refine Oz _ rfl (.tmp 13) (.tmp 25) 171 rfl base 176 ii (.agg #[.int .u64 0,.int .i64 0,.slice none 0 0]) 3 40 underlying171 aM hz bZ aL rfl (by decide) hv n (H.flatMap ct) (by simp [Act.eval]) (OW.o w4 G4.o _) ⟨w4.heap.size,0,none⟩ 1 1 (ct hx) (by simp [Act.eval]) rfl (NW.o w4) (Ou hx) (by simp only [maxLen];omega) (by omega) (Nat.le_trans (show base<=w4.heap.size by omega) ((Gw.refl w4).alloc _ _).size) ?_;intro v' w7 r1 r2 r3 r4;obtain ⟨b8,cap8,ev,_,_,_⟩:=cS r1 (by simpa using r3);obtain ⟨⟨B7,l7⟩,P7,G7,N7⟩:=tU.o w4 v' w7 G4.o r1 r2 (by simpa using r4);have k7:=aD (o:=1) B7 rfl;have f7:=dR (o:=1) B7;have P8:ag _:=P7;have G8:ag _:=G7;have N8:ag _:=N7;clear B7 P7 G7 N7 r1 r2 r3 r4;subst ev))
  all_goals go_wp2_with fail
  all_goals refine (RS.o n b8 cap8 (H++[hx]) _ HL.o (by omega) P8.o RI.o).mono ?_
  all_goals rintro ex u9 ⟨rfl,⟨H',p1,p2,p3⟩,g9⟩
  all_goals have FF:ag _:=aJ.o b8 cap8 _ u9 H' P8.o G8.o N8.o p1 p2 p3 g9
  all_goals clear p1 p2 p3 g9
  all_goals go_wp2_with fail
  all_goals go_end0
  all_goals exact ⟨rfl,FF.o⟩
theorem abM (hb K:Nat) (hv pv:Value) (H P:List (Hd ah)) (key:ah->Int) (FK:zP fU key ah.ok K) (gK:H.length<=3000000) (hp2:P.length<=3000000) (w:World) (eQ:jM 173 176 w hb (.func (.func K) #[] #[]) hv pv H P) (hH:bK H)
  (me:∀ h∈H,(∃ x t,h.s.l=x::t/\h.k=key x)/\h.s.b<hb/\h.s.l.length<=h.s.c/\h.s.l.length<=4000000/\h.i<=4000000/\fV w h.s/\∀ x∈h.s.l,ah.ok x) :
  Calls prog 91 #[.pointer (some ⟨hb,0,none⟩)] w fun e w'=>wG 173 176 w hb K 3 hv pv H key fU (.agg #[.int .u64 0,.int .u64 0,.bool false]) e w':=by
 by_cases h0:H=[]
 ·subst h0
  have aX:hb<w.heap.size:=aE eQ.hp.blk;have c1:w.cell? ⟨hb,1,none⟩=some hv:=aD eQ.hp.blk rfl;rcases OE eQ.hp.row with ⟨e,_⟩ | ⟨g,cap,e,wO⟩
  all_goals
   subst e;clear eQ hH me FK;go_enter func91,ntmps91;go_wp2_with fail;refine bodyPost_ret (v:=.tuple #[.agg #[.int .u64 0,.int .u64 0,.bool false],.bool false]) (by simp [results,results91,go_sem]) rfl ?_
   exact ⟨fun _=>⟨rfl,by first | exact ((Gw.refl w).alloc _ _).alloc _ _ | exact (((Gw.refl w).alloc _ _).alloc _ _).setCell (by simp) _⟩,fun h=>absurd rfl h⟩
 ·have nL:0<H.length:=List.length_pos_iff.2 h0
  have gm:gt H 0∈H:=by
   have:gt H 0=H[0]:=by simp [gt,List.getD,nL]
   rw [this];exact List.getElem_mem _
  have ME:ag _:=me;obtain ⟨⟨x,t,nK,pA⟩,Pz,xcl,_,_,xel,xok⟩:=me (gt H 0) gm;obtain ⟨g,cap,PD,wI,gb,gl⟩:=Ov eQ.hp.row nL;obtain ⟨n,hn⟩:∃ n,H.length=n:=⟨_,rfl⟩;have LN:ag _:=hn;rw [hn] at PD wI nL gK;subst PD;have ST:ag _:=eQ;have HH:ag _:=hH;have aX:hb<w.heap.size:=aE eQ.hp.blk;have c1:w.cell? ⟨hb,1,none⟩=some (.slice (some ⟨g,0,none⟩) n cap):=aD eQ.hp.blk rfl;have c2:w.cell? ⟨hb,2,none⟩=some pv:=aD eQ.hp.blk rfl;have fr2:w.frozen? ⟨hb,2,none⟩=false:=dR eQ.hp.blk;obtain ⟨y,hy⟩:∃ y,gt H 0=y:=⟨_,rfl⟩;have YV:ag _:=hy;obtain ⟨e0,e1,e2⟩:=(eK eQ.hp.row hn).2.2.2 0 nL;rw [hy] at e0 e1 e2 nK pA;obtain ⟨yk,yi,⟨yb,yo,yc,yl⟩⟩:=y;dsimp only at nK pA;obtain ⟨yn,fM⟩:∃ m,yl.length=m:=⟨_,rfl⟩;have YN:ag _:=fM;simp only [Nat.zero_mul,Nat.zero_add,aB.v,fM] at e0 e1 e2;have YL:ag _:=nK;have YK:ag _:=pA;have tn:((n:Int) == 0)=false:=by simp;omega
  obtain ⟨po,pc,SL,R0,OB⟩:∃ (po:Option Addr) (pc:Nat),(∀ W:World,(Instr.slice 171 pv none (some (.int .i64 0)) none).run prog W=.ok (.slice po 0 pc) W)/\HR 176 w (hb+1) (.slice po 0 pc) ([]:List (Hd ah))/\(Value.slice po 0 pc).ownBlock=pv.ownBlock:=by
   rcases OE eQ.pr with ⟨e,_⟩ | ⟨gp,cp,e,cZ⟩
   ·subst e
    exact ⟨none,0,fun W=>by kernel_rfl,Eg _ _ _,rfl⟩
   ·have pr:=eQ.pr
    subst e;refine ⟨some ⟨gp,0,none⟩,cp,fun W=>?_,Ox pr rfl 0 (Nat.zero_le _),rfl⟩
    have c0:(0:Int)<=(cp:Int):=by omega
    by_cases z:cp=0
    ·subst z;simp [go_sem,Instr.slice]
    ·simp [go_sem,Instr.slice]
  obtain ⟨N5,PG⟩:∃ N,N=w.heap.size+1:=⟨_,rfl⟩;obtain ⟨W5,E5⟩:∃ W5,(w.alloc (.cells #[.int .u64 0,.int .u64 0,.bool false] 40)).alloc (.cells #[.int .u64 yk,.int .i64 (yi:Int),.slice (some ⟨yb,yo,none⟩) yn yc] 176)=W5:=⟨_,rfl⟩;have G5:Gw w W5:=by rw [<-E5];exact ((Gw.refl w).alloc _ _).alloc _ _
  have B5:W5.heap[N5]?=some (.cells #[.int .u64 yk,.int .i64 (yi:Int),.slice (some ⟨yb,yo,none⟩) yn yc] 176 (0,0)):=by
   rw [<-E5,PG]
   first
    | exact heap_alloc_new _ _
    | (have:=heap_alloc_new (w.alloc (.cells #[.int .u64 0,.int .u64 0,.bool false] 40)) (.cells #[.int .u64 yk,.int .i64 (yi:Int),.slice (some ⟨yb,yo,none⟩) yn yc] 176);simpa using this)
  have B2:W5.heap[w.heap.size]?=some (.cells #[.int .u64 0,.int .u64 0,.bool false] 40 (0,0)):=by
   rw [<-E5];exact (heap_alloc_old _ _ (by simp)).trans (heap_alloc_new w _)
  have n5:N5<W5.heap.size:=aE B5;have dH:W5.heap[hb]?=some (.cells #[.func (.func K) #[] #[],.slice (some ⟨g,0,none⟩) n cap,pv] 173 (0,0)):=(G5.below.block _ aX).trans ST.o.hp.blk;obtain ⟨W6,E6⟩:∃ W6,W5.setCell ⟨hb,2,none⟩ (.slice po 0 pc)=W6:=⟨_,rfl⟩;have A0:ag (gJ 173 176 w W6 hb g cap (.func (.func K) #[] #[]) pv H yk n (.slice po 0 pc) H [] W6):=by
   have rC:∀ q,q≠hb->W6.heap[q]?=W5.heap[q]?:=fun q hq=>by rw [<-E6];exact Go.Deep.blk_setCell_other _ _ _ _ hq
   have s6:W6.heap.size=W5.heap.size:=by rw [<-E6];simp [World.setCell]
   have fW:g≠hb:=ST.o.hp.ne g rfl;have PH:=(mF ST.o.hp.row g rfl).2;have plt:∀ q,pv.ownBlock=some q->q<w.heap.size:=fun q hq=>(mF ST.o.pr q hq).2
   have pne:=ST.o.pne;refine ⟨⟨⟨?_,?_,ST.o.hp.ne⟩,?_,fun q hq rz=>ST.o.ap q hq (by rw [<-OB];exact rz)⟩,LN.o,by simp,(fun p hp=>by cases hp),HH.o,fun q hq=>.inl (by rw [<-OB];exact hq),fun _ _ _=>rfl,?_,⟨by rw [s6];exact G5.size,Nat.le_refl _⟩,⟨PH,aX,fW,plt⟩⟩
   ·rw [<-E6];exact lF dH _
   ·exact kC ST.o.hp.row fun q hq=>by cases hq;exact (rC g fW).trans (G5.below.block g PH)
   ·exact kC R0 fun q hq=>by rw [OB] at hq;exact (rC q (pne q hq)).trans (G5.below.block q (plt q hq))
   ·rw [<-E6];exact (G5.gx _).set (.inl (Or.inl rfl)) _ _
  have BX:ag (∀ W:World,(∀ q,w.heap.size<=q->q<W6.heap.size->W.heap[q]?=W6.heap[q]?)->W.heap[N5]?=some (.cells #[.int .u64 yk,.int .i64 (yi:Int),.slice (some ⟨yb,yo,none⟩) yn yc] 176 (0,0))/\W.heap[w.heap.size]?=some (.cells #[.int .u64 0,.int .u64 0,.bool false] 40 (0,0))):=fun W hW=>by
   have s6:W6.heap.size=W5.heap.size:=by rw [<-E6];simp [World.setCell]
   have rC:∀ q,q≠hb->W6.heap[q]?=W5.heap[q]?:=fun q hq=>by rw [<-E6];exact Go.Deep.blk_setCell_other _ _ _ _ hq
   exact ⟨(hW N5 (by omega) (by omega)).trans ((rC N5 (by omega)).trans B5),(hW _ (Nat.le_refl _) (by omega)).trans ((rC _ (by omega)).trans B2)⟩
  have W6L:ag (w.heap.size<W6.heap.size):=by
   have s6:W6.heap.size=W5.heap.size:=by rw [<-E6];simp [World.setCell]
   show _<_;omega
  have k1:W5.cell? ⟨hb,1,none⟩=some (.slice (some ⟨g,0,none⟩) n cap):=aD dH rfl;have k2:W5.cell? ⟨hb,2,none⟩=some pv:=aD dH rfl;have k3:W5.frozen? ⟨hb,2,none⟩=false:=dR dH;have l5:hb<W5.heap.size:=aE dH;have Fa:ag (∀ n1 bE H1 P1 wr,gJ 173 176 w W6 hb g cap (.func (.func K) #[] #[]) pv H yk n1 bE H1 P1 wr->(n1=0\/(gt H1 0).k≠yk)->0<P1.length/\∀ x∈H1,x.k≠yk):=fun n1 bE H1 P1 wr h ex=>h.exit HH.o (by rw [LN.o];exact nL) (by rw [YV.o]) ex
  have PI:ag (∀ (n1:Nat) (bE:Value) (H1 P1:List (Hd ah)) (wr:World),gJ 173 176 w W6 hb g cap (.func (.func K) #[] #[]) pv H yk n1 bE H1 P1 wr->1<=n1->n1<=3000000->Calls prog 110 #[.pointer (some ⟨hb,0,none⟩)] wr fun e w'=>e=.returned (gt H1 0).v/\(∃ H',(gt H1 0::H').Perm H1/\bK H'/\H'.length=n1-1/\dY 173 176 w' hb (hb+1) (.func (.func K) #[] #[]) (.slice (some ⟨g,0,none⟩) (n1-1) cap) bE H')/\Gx (fun q=>q=hb\/q=g) wr w'):=fun n1 bE H1 P1 wr h h1 h2=>abL hb n1 g cap (hb+1) _ bE H1 h.ln h1 (by omega) wr h.st.hp h.ho
  have Fb:ag (∀ n1 bE H1 P1 wr,gJ 173 176 w W6 hb g cap (.func (.func K) #[] #[]) pv H yk n1 bE H1 P1 wr->P1.length+n1=n):=fun n1 bE H1 P1 wr h=>by
   have:=h.pm.length_eq
   rw [List.length_append,LN.o,h.ln] at this;exact this
  obtain ⟨ii,aM,hz,bZ,aL⟩:=info_parts Pv;subst PG;clear eQ hH me h0 hn hy fM nK pA gm R0 OB B5 dH G5 n5;go_enter func91,ntmps91;go_upto_block 0 with fail;clear E5 E6 k1 k2 k3 l5 SL c1 c2 fr2 e0 e1 e2 tn;go_cut [] from 29 to 57 (fun wc=>∃ (n1:Nat) (bE:Value) (H1 P1:List (Hd ah)),ag (gJ 173 176 w W6 hb g cap (.func (.func K) #[] #[]) pv H yk n1 bE H1 P1 wc)/\ag (0<P1.length/\∀ x∈H1,x.k≠yk))
  case first=>as_aux_lemma =>
   go_wp2_with fail;go_loopg [] n (fun gg wr=>∃ (n1:Nat) (bE:Value) (H1 P1:List (Hd ah)),n1<=gg/\n1<=n/\ag (gJ 173 176 w W6 hb g cap (.func (.func K) #[] #[]) pv H yk n1 bE H1 P1 wr))
   case atStart=>exact ⟨n,.slice po 0 pc,H,[],Nat.le_refl _,Nat.le_refl _,A0⟩
   case round =>
    obtain ⟨n1,bE,H1,P1,ng,nn,AA⟩:=hrel;obtain ⟨wS,aZ⟩:∃ wx,wx=wr:=⟨_,rfl⟩;subst aZ;have c1:wS.cell? ⟨hb,1,none⟩=some (.slice (some ⟨g,0,none⟩) n1 cap):=aD AA.o.st.hp.blk rfl;have c2:wS.cell? ⟨hb,2,none⟩=some bE:=aD AA.o.st.hp.blk rfl;have f0:=aD (o:=0) ((BX.o _ AA.o.bx).1) rfl;have af5:n1<=cap:=(eK AA.o.st.hp.row AA.o.ln).2.1;by_cases p0:0<n1
    ·have p0':decide ((0:Int)<(n1:Int))=true:=by simpa using p0
     obtain ⟨z,pa⟩:∃ z,gt H1 0=z:=⟨_,rfl⟩;have ZV:ag _:=pa;obtain ⟨d0,d1,d2⟩:=(eK AA.o.st.hp.row AA.o.ln).2.2.2 0 p0;rw [pa] at d0 d1 d2;simp only [Nat.zero_mul,Nat.zero_add] at d0 d1 d2;have NW:=fun W=>Oy 176 W z
     obtain ⟨zk,zi,⟨zb,zo,zc,zl⟩⟩:=z;obtain ⟨zn,pF⟩:∃ m,zl.length=m:=⟨_,rfl⟩;have ZN:ag _:=pF;dsimp only at d0;by_cases zy:zk=yk
     ·have zy':(zk == yk)=true:=by simpa using zy
      obtain ⟨m1,PJ⟩:∃ m,m=n1-1:=⟨_,rfl⟩;have PO:ag (∀ k:Nat,Calls prog 110 #[.pointer (some ⟨hb,0,none⟩)] (wS.drewN k) fun e w'=>e=.returned (.agg #[.int .u64 zk,.int .i64 (zi:Int),.slice (some ⟨zb,zo,none⟩) zn zc])/\(∃ H',(gt H1 0::H').Perm H1/\bK H'/\H'.length=m1/\dY 173 176 w' hb (hb+1) (.func (.func K) #[] #[]) (.slice (some ⟨g,0,none⟩) m1 cap) bE H')/\Gx (fun q=>q=hb\/q=g) wS w'):=fun k=>by
       have:=PI.o n1 bE H1 P1 (wS.drewN k) (AA.o.drewN k) (by omega) (by omega)
       rw [ZV.o,<-PJ] at this;rw [ZV.o,<-ZN.o];exact this.mono fun e w' ⟨q1,q2,q3⟩=>⟨q1,q2,⟨q3.os,q3.tape,q3.output,q3.size,q3.block⟩⟩
      have tU:ag (∀ (H2:List (Hd ah)) (w4:World) (v':Value) (w7:World),(gt H1 0::H2).Perm H1->bK H2->H2.length=m1->dY 173 176 w4 hb (hb+1) (.func (.func K) #[] #[]) (.slice (some ⟨g,0,none⟩) m1 cap) bE H2->Gx (fun q=>q=hb\/q=g) wS w4->w7.ownsRow (hb+1) 176 3 v' (P1.length+1) (P1.flatMap ct++ct ⟨zk,zi,⟨zb,zo,zc,zl⟩⟩)->(w4.alloc (.cells #[.int .u64 zk,.int .i64 (zi:Int),.slice (some ⟨zb,zo,none⟩) zn zc] 176)).grownBy w7 bE.ownBlock->(v'.ownBlock=bE.ownBlock\/v'.ownBlock=some (w4.heap.size+1))->w7.heap[hb]?=some (.cells #[.func (.func K) #[] #[],.slice (some ⟨g,0,none⟩) m1 cap,bE] 173 (0,0))/\gJ 173 176 w W6 hb g cap (.func (.func K) #[] #[]) pv H yk m1 v' H2 (P1++[gt H1 0]) (w7.setCell ⟨hb,2,none⟩ v')):=fun H2 w4 v' w7 a1 a2 a3 a4 a5 a6 a7 a8=>AA.o.step _ (by rw [ZV.o];exact zy) a1 a2 a3 a4 a5 (by rw [ZV.o];exact a6) a7 a8
      have PR:ag (∀ (H2:List (Hd ah)) (w4:World),dY 173 176 w4 hb (hb+1) (.func (.func K) #[] #[]) (.slice (some ⟨g,0,none⟩) m1 cap) bE H2->Gx (fun q=>q=hb\/q=g) wS w4->∀ o:Obj,(w4.alloc o).ownsRow (hb+1) 176 3 bE P1.length (P1.flatMap ct)):=fun H2 w4 m4 g4 o=>by
       have r:HR 176 w4 (hb+1) bE P1:=abg AA.o.st.pr g4 (fun q hq e=>by
        rcases e with e | e
        ·exact AA.o.st.pne q hq e
        ·exact AA.o.st.ap q (by rw [e];rfl) hq)
       exact World.ownsRow.alloc r _
      have NWH:ag (∀ W:World,∀ j u,(ct (⟨zk,zi,⟨zb,zo,zc,zl⟩⟩:Hd ah))[j]?=some u->(W.alloc (.cells #[.int .u64 zk,.int .i64 (zi:Int),.slice (some ⟨zb,zo,none⟩) zn zc] 176)).cell? ((⟨W.heap.size,0,none⟩:Addr).add j)=some u):=fun W=>by
       have:=NW W
       simp only [pF] at this;exact this
      have pl:=Fb.o _ _ _ _ _ AA.o;have plb:P1.length<=3000000:=by omega
      have ml:m1<n1:=by omega
      clear pl NW pa pF d1 d2 zy PJ;go_wp2_with fail;go_quiet (fail);go_wp2_with fail;go_region_law (first
       | (go_simp;refine (PO.o _).mono ?_;rintro e w4 ⟨rfl,⟨H2,q1,q2,q3,q4⟩,g4⟩;have Q1:ag _:=q1;have Q2:ag _:=q2;have Q3:ag _:=q3;have Q4:ag _:=q4;have PN:ag _:=g4;have k4:=aD (o:=2) q4.blk rfl;have l4:hb<w4.heap.size:=aE q4.blk;clear q1 q2 q3 q4 g4)
       | (refine Oz _ rfl (.tmp 51) (.tmp 54) 171 rfl (hb+1) 176 ii (.agg #[.int .u64 0,.int .i64 0,.slice none 0 0]) 3 40 underlying171 aM hz bZ aL rfl (by decide) bE P1.length (P1.flatMap ct) (by simp [Act.eval]) (PR.o H2 w4 Q4.o PN.o _) ⟨w4.heap.size,0,none⟩ 1 1 (ct (⟨zk,zi,⟨zb,zo,zc,zl⟩⟩:Hd ah)) (by simp [Act.eval]) rfl (NWH.o w4) (Ou _) (by simp only [maxLen];omega) (by omega) (Nat.le_trans (show hb+1<=w4.heap.size by omega) ((Gw.refl w4).alloc _ _).size) ?_;intro v' w7 r1 r2 r3 r4;obtain ⟨b8,cap8,ev,_,_,_⟩:=cS r1 (by simpa using r3);obtain ⟨B7,A7⟩:=tU.o H2 w4 v' w7 Q1.o Q2.o Q3.o Q4.o PN.o r1 r2 (by simpa using r4);have k7:=aD (o:=2) B7 rfl;have f7:=dR (o:=2) B7;have l7:=aE B7;have A8:ag _:=A7;clear B7 A7 r1 r2 r3 r4;subst ev))
      all_goals go_wp2_with fail
      all_goals go_roundg m1
      all_goals first
       | (case measure=>omega)
       | (case rel=>exact ⟨m1,_,H2,P1++[gt H1 0],Nat.le_refl _,by omega,(show ag _ from A8.o)⟩)
     ·have zy':(zk == yk)=false:=by simpa using zy
      have EX:ag _:=Fa.o _ _ _ _ _ AA.o (.inr (by rw [ZV.o];exact zy))
      clear NW pa pF d1 d2 zy;go_wp2_with fail;go_quiet (fail);go_wp2_with fail;go_meet
      case rel=>exact ⟨n1,bE,H1,P1,(show ag _ from by first | exact AA.o.drew | exact AA.o.drewN _),EX⟩
    ·have p0':decide ((0:Int)<(n1:Int))=false:=by simp;omega
     have EX:ag _:=Fa.o _ _ _ _ _ AA.o (.inl (by omega))
     go_wp2_with fail;go_quiet (fail)
     go_wp2_with fail;go_meet
     case rel=>exact ⟨n1,bE,H1,P1,(show ag _ from by first | exact AA.o.drew | exact AA.o.drewN _),EX⟩
  case rest=>as_aux_lemma =>
   obtain ⟨n1,bE,H1,P1,AA,EX⟩:=hcut;obtain ⟨wA,Fc⟩:∃ wx,wx=wc:=⟨_,rfl⟩;subst Fc;clear Fa PI;have PV:=Fb.o _ _ _ _ _ AA.o;clear Fb A0;obtain ⟨gp,cp,epv,npc,_,_⟩:=Ov AA.o.st.pr EX.o.1;subst epv;obtain ⟨np,tV⟩:∃ m,P1.length=m:=⟨_,rfl⟩;have NP:ag _:=tV;have B0:ag (jS 173 176 w W6 hb g gp np cp 3 (.func (.func K) #[] #[]) (.slice (some ⟨g,0,none⟩) n cap) pv key H1 P1 0 (.slice (some ⟨g,0,none⟩) n1 cap) H1 wA):=by
    have:=AA.o.toB (sz:=3) (key:=key) (n:=n)
    rw [tV] at this;exact this
   have c2:wA.cell? ⟨hb,2,none⟩=some (.slice (some ⟨gp,0,none⟩) np cp):=by rw [<-tV];exact aD AA.o.st.hp.blk rfl
   rw [tV] at npc PV;have np0:0<np:=by have:=EX.o.1;rw [tV] at this;exact this
   have Fe:ag (∀ W,Gx (fX hb (.slice (some ⟨g,0,none⟩) n cap) pv) w W->∀ q,q<hb->W.heap[q]?=w.heap[q]?):=fun W gg q hq=>gg.block q (by omega) (fun e=>by have:=(ST.o.lt e).1;omega)
   have rD:ag (∀ (j:Nat) (aO:Value) (Hc:List (Hd ah)) (wr Wq:World) (ao:Option Addr) (sc pm:Nat),jS 173 176 w W6 hb g gp np cp 3 (.func (.func K) #[] #[]) (.slice (some ⟨g,0,none⟩) n cap) pv key H1 P1 j aO Hc wr->j<np->Gw wr Wq->(gt P1 j).s.l.length=pm+1->(0<pm->ao=some ⟨(gt P1 j).s.b,(gt P1 j).s.off+3,none⟩/\sc=(gt P1 j).s.c-1)->Calls prog 109 #[.pointer (some ⟨hb,0,none⟩),.int .i64 ((gt P1 j).i:Int),.slice ao pm sc] Wq fun e w'=>e=.returned (.tuple #[])/\∃ lK H2,jS 173 176 w W6 hb g gp np cp 3 (.func (.func K) #[] #[]) (.slice (some ⟨g,0,none⟩) n cap) pv key H1 P1 (j+1) lK H2 w'):=fun j aO Hc wr Wq ao sc pm hB jl gq hl Ac=>by
    have tD:j<P1.length:=by rw [NP.o];exact jl
    have Ad:gt P1 j∈H:=AA.o.pm.mem_iff.1 (List.mem_append.2 (.inl (by
     have:gt P1 j=P1[j]:=by simp [gt,List.getD,tD]
     rw [this];exact List.getElem_mem _)))
    obtain ⟨_,m1,m2,m3,m4,m5,m6⟩:=ME.o _ Ad;have e1:(adv 3 (gt P1 j).s).l.length=pm:=by show (gt P1 j).s.l.tail.length=pm;rw [List.length_tail,hl];rfl
    have kb:Wq.heap[(gt P1 j).s.b]?=w.heap[(gt P1 j).s.b]?:=(gq.below.block _ (by have:=hB.sz;omega)).trans (Fe.o wr hB.gx _ m1)
    have few:=hB.few;have h1l:H1.length=n1:=AA.o.ln;have:=Pw hb Hc.length (hb+1) K (gt P1 j).i aO _ Hc (adv 3 (gt P1 j).s) key FK rfl (by rw [NP.o] at few;omega) m4 Wq ⟨(gq.below.block _ (aE hB.st.hp.blk)).trans hB.st.hp.blk,tN hB.st.hp.row gq,hB.st.hp.ne⟩ (Nat.le_refl _) hB.ho (by rw [e1];omega) ao sc (fun h0=>by
     rw [e1] at h0;obtain ⟨z1,z2⟩:=Ac h0;refine ⟨z1,z2,?_,?_⟩
     ·show (gt P1 j).s.l.tail.length<=(gt P1 j).s.c-1
      rw [List.length_tail];omega
     ·show (gt P1 j).s.b<_
      have:=gq.size;have:=hB.sz;omega) (m5.keep kb).adv (fun x hx=>m6 x (List.mem_of_mem_tail hx))
    rw [e1] at this;exact this.mono fun e w' ⟨q1,⟨lK,H2,q2,q3,q4,q5⟩,q6⟩=>⟨q1,lK,H2,hB.step tD gq q2 q3 q4 q5 q6⟩
   have PIN:ag (∀ p∈P1,p∈H):=fun p hp=>AA.o.pm.mem_iff.1 (List.mem_append.2 (.inl hp))
   have Ff:ag _:=AA.o.pm;have PPK:ag _:=AA.o.pk;clear tV AA;go_wp2_with fail;go_loopg [63] np (fun gg s63 wr=>∃ (j:Nat) (aO:Value) (Hc:List (Hd ah)),s63=.int .i64 (j:Int)/\j<=np/\np-j<=gg/\ag (jS 173 176 w W6 hb g gp np cp 3 (.func (.func K) #[] #[]) (.slice (some ⟨g,0,none⟩) n cap) pv key H1 P1 j aO Hc wr))
   case atStart=>exact ⟨0,_,H1,rfl,Nat.zero_le _,by omega,B0⟩
   case round=>as_aux_lemma =>
    clear B0 c2;obtain ⟨j,aO,Hc,rfl,jn,jg,NB⟩:=hrel;obtain ⟨wS,aZ⟩:∃ wx,wx=wr:=⟨_,rfl⟩;subst aZ;by_cases jl:j<np
    ·have tD:(j:Int)<(np:Int):=by omega
     obtain ⟨d0,d1,d2⟩:=(eK NB.o.st.pr NP.o).2.2.2 j jl;have jl2:j<P1.length:=by rw [NP.o];exact jl
     have Ad:gt P1 j∈P1:=by
      have:gt P1 j=P1[j]:=by simp [gt,List.getD,jl2]
      rw [this];exact List.getElem_mem _
     obtain ⟨z,pa⟩:∃ z,gt P1 j=z:=⟨_,rfl⟩;have PU:=rD.o j aO Hc wS;have PX:=ME.o _ (PIN.o _ Ad);rw [pa] at d0 d1 d2 PU PX;obtain ⟨zk,zi,⟨zb,zo,zc,zl⟩⟩:=z;obtain ⟨⟨x',t',Fg,_⟩,_,PY,P0,_,_,_⟩:=PX;dsimp only at Fg PY P0;obtain ⟨zn,pF⟩:∃ m,zl.length=m:=⟨_,rfl⟩;obtain ⟨pm,tL⟩:∃ m,m=zn-1:=⟨_,rfl⟩;have zn0:0<zn:=by rw [<-pF,Fg];simp
     simp only [aB.v,pF] at d0 d1 d2 PY P0;obtain ⟨ao,sc,SLP,Qa⟩:∃ (ao:Option Addr) (sc:Nat),(∀ W:World,(Instr.slice 35 (.slice (some ⟨zb,zo,none⟩) zn zc) (some (.int .i64 1)) none none).run prog W=.ok (.slice ao pm sc) W)/\(0<pm->ao=some ⟨zb,zo+3,none⟩/\sc=zc-1):=by
      by_cases z1:zc=1
      ·have e1:zn=1:=by omega
       have e2:pm=0:=by omega
       subst z1 e1 e2;exact ⟨some ⟨zb,zo,none⟩,0,fun W=>by simp [go_sem,Instr.slice],fun h=>by omega⟩
      ·exact ⟨some ⟨zb,zo+3,none⟩,zc-1,fun W=>by (have zz:¬ ((zn:Int)<1):=by omega);simp [go_sem,Instr.slice,z1,tL,zz],fun _=>⟨rfl,rfl⟩⟩
     have Qb:ag (∀ Wq,Gw wS Wq->Calls prog 109 #[.pointer (some ⟨hb,0,none⟩),.int .i64 (zi:Int),.slice ao pm sc] Wq fun e w'=>e=.returned (.tuple #[])/\∃ lK H2,jS 173 176 w W6 hb g gp np cp 3 (.func (.func K) #[] #[]) (.slice (some ⟨g,0,none⟩) n cap) pv key H1 P1 (j+1) lK H2 w'):=fun Wq gq=>PU Wq ao sc pm NB.o jl gq (by show zl.length=pm+1;omega) (fun h0=>Qa h0)
     obtain ⟨Wq,EQ⟩:∃ Wq,wS.alloc (.cells #[.int .u64 zk,.int .i64 (zi:Int),.slice (some ⟨zb,zo,none⟩) zn zc] 176)=Wq:=⟨_,rfl⟩;have GQ:ag (Gw wS Wq):=by rw [<-EQ];exact (Gw.refl wS).alloc _ _
     have BQ:Wq.heap[wS.heap.size]?=some (.cells #[.int .u64 zk,.int .i64 (zi:Int),.slice (some ⟨zb,zo,none⟩) zn zc] 176 (0,0)):=by rw [<-EQ];exact heap_alloc_new _ _
     have q1:Wq.drew.cell? ⟨wS.heap.size,1,none⟩=some (.int .i64 (zi:Int)):=aD (W:=Wq) BQ rfl;have q2:Wq.drew.cell? ⟨wS.heap.size,2,none⟩=some (.slice (some ⟨zb,zo,none⟩) zn zc):=aD (W:=Wq) BQ rfl;clear PU rD Qa tL pF Fg pa BQ Ad;go_wp2_with fail;refine wp_region_still_tail 6 (by kernel_rfl) (by kernel_rfl) ?_
     change wpStill _ _ (World.drew Wq) (fun a'=>wpList _ _ _ _ a' (World.drew Wq)) _ _
     simp only [List.take_succ_cons,List.take_zero,List.drop_succ_cons,List.drop_zero]
     still_step
     still_step
     still_step
     still_step
     still_step
     still_step
     refine wpStill_nil ?_;go_wp2_with fail;refine (Qb.o _ GQ.o.drew).mono ?_;rintro ex u5 ⟨rfl,lK,H2,Qc⟩;have NB5:ag _:=Qc;clear Qc Qb q1 q2 EQ;go_wp2_with fail;go_roundg (np-(j+1))
     case measure=>omega
     case rel=>exact ⟨j+1,lK,H2,by go_num,by omega,Nat.le_refl _,NB5⟩
    ·have ej:j=np:=by omega
     subst ej;have tD:¬ ((j:Int)<(j:Int)):=by omega
     clear rD;have b5:=(BX.o _ NB.o.bx).1;have k2:=aD (o:=2) b5 rfl;have Qd:0<yn:=by rw [<-YN.o,YL.o];simp
     have kb:wS.heap[yb]?=w.heap[yb]?:=Fe.o _ NB.o.gx _ (by rw [YV.o] at Pz;exact Pz)
     have xe:=xel.keep (w':=wS) (by rw [YV.o];exact kb)
     rw [YV.o] at xe;have Qe:ag (Hc.Perm (H1++P1.flatMap (fun h=>da key h.i (adv 3 h.s)))):=by
      have:=NB.o.pm
      rw [List.take_of_length_le (by rw [NP.o];exact Nat.le_refl _)] at this
      exact this
     have wo:ag (∀ W9,Gx (fun q=>q=w.heap.size) wS W9->wG 173 176 w hb K 3 (.slice (some ⟨g,0,none⟩) n cap) pv H key fU (.agg #[.int .u64 0,.int .u64 0,.bool false]) (.returned (.tuple #[fU x,.bool true])) W9):=fun W9 g9=>by
      obtain ⟨f1,f2,f3⟩:=NB.o.fin g9 W6L.o;refine ⟨fun e=>?_,fun _=>⟨x,t,aO,_,Hc,P1,H1,by rw [YV.o];exact YL.o,rfl,Ff.o,fun p hp=>by rw [YV.o];exact PPK.o p hp,fun p hp=>by rw [YV.o];exact EX.o.2 p hp,Qe.o,NB.o.ho,f1,f2,f3⟩⟩
      rw [e] at Ff;have:=Ff.o.length_eq;rw [List.length_append,NP.o] at this;simp at this;omega
     obtain ⟨xk,xv,xg⟩:=x;obtain ⟨r0,r1,r2⟩:wS.cell? ⟨yb,yo,none⟩=some (.int .u64 xk)/\wS.cell? ⟨yb,yo+1,none⟩=some (.int .u64 xv)/\wS.cell? ⟨yb,yo+2,none⟩=some (.bool xg):=by
      have:=xe 0 _ (by show yl[0]?=_;rw [YL.o];rfl)
      simpa using this
     have b2:=(BX.o _ NB.o.bx).2;obtain ⟨W9,E9⟩:∃ W9,((wS.setCell ⟨w.heap.size,0,none⟩ (.int .u64 xk)).setCell ⟨w.heap.size,1,none⟩ (.int .u64 xv)).setCell ⟨w.heap.size,2,none⟩ (.bool xg)=W9:=⟨_,rfl⟩;have b9:W9.heap[w.heap.size]?=some (.cells #[.int .u64 xk,.int .u64 xv,.bool xg] 40 (0,0)):=by
      rw [<-E9];have:=lF (o:=2) (lF (o:=1) (lF (o:=0) b2 (.int .u64 xk)) (.int .u64 xv)) (.bool xg);simpa using this
     have PO9:ag _:=wo.o W9 (by rw [<-E9];exact (((Gx.refl (fun q=>q=w.heap.size) wS).set (.inl rfl) _ _).set (.inl rfl) _ _).set (.inl rfl) _ _)
     have j0:=aD (o:=0) b2 rfl;have j1:=aD (o:=1) b2 rfl;have j2:=aD (o:=2) b2 rfl;have jf0:=dR (o:=0) b2;have jf1:=dR (o:=1) b2;have jf2:=dR (o:=2) b2;have y0:=aD (o:=0) b9 rfl;have y1:=aD (o:=1) b9 rfl;have y2:=aD (o:=2) b9 rfl;have lw:w.heap.size<wS.heap.size:=aE b2;clear wo b2 b9;clear NB Qe xe b5 BX Fe;go_wp2_with fail;refine bodyPost_ret (v:=.tuple #[.agg #[.int .u64 xk,.int .u64 xv,.bool xg],.bool true]) (by simp [results,results91,go_sem,y0,y1,y2]) rfl PO9.o
theorem abN (K:Nat) (key:ah->Int) (FK:zP fU key ah.ok K) (L:List (aB ah)) (ao:Option Addr) (c:Nat) (hL:L.length<=3000000) (w:World) (hv:LV w ao L) (eI:∀ s∈L,pE ah.ok w.heap.size s) (lL:∀ s∈L,s.l≠[]->fV w s) :
  Calls prog 90 #[.func (.func K) #[] #[],.slice ao L.length c] w fun e w'=>e=.returned (.pointer (some ⟨w.heap.size,0,none⟩))/\(∃ hv H,Tl 173 176 (fV) ah.ok key L w.heap.size K [] L hv (.slice none 0 0) H [] w')/\Gw w w':=by
 obtain ⟨n,hn⟩:∃ n,L.length=n:=⟨_,rfl⟩;have LN:ag _:=hn;rw [hn] at hL ⊢;have Qf:ag _:=hv;obtain ⟨hb,rE⟩:∃ hb,w.heap.size=hb:=⟨_,rfl⟩;have rF:ag _:=rE;obtain ⟨W1,E1⟩:∃ W1,w.alloc (.cells #[.func (.func K) #[] #[],.slice none 0 0,.slice none 0 0] 173)=W1:=⟨_,rfl⟩;have G1:ag (Gw w W1):=by rw [<-E1];exact (Gw.refl w).alloc _ _
 have B1:ag (W1.heap[hb]?=some (.cells #[.func (.func K) #[] #[],.slice none 0 0,.slice none 0 0] 173 (0,0))):=by rw [<-E1,<-rE];exact heap_alloc_new w _
 have rD:ag (∀ (i:Nat) (hi:i<n) (hv:Value) (H:List (Hd ah)) (W:World) (bo:Option Addr) (sc:Nat),H.Perm (bT key 0 (L.take i))->bK H->dY 173 176 W hb (hb+1) (.func (.func K) #[] #[]) hv (.slice none 0 0) H->Gw w W->(0<(L[i]'(by rw [LN.o];exact hi)).l.length->bo=some ⟨(L[i]'(by rw [LN.o];exact hi)).b,(L[i]'(by rw [LN.o];exact hi)).off,none⟩/\sc=(L[i]'(by rw [LN.o];exact hi)).c)->Calls prog 109 #[.pointer (some ⟨hb,0,none⟩),.int .i64 (i:Int),.slice bo (L[i]'(by rw [LN.o];exact hi)).l.length sc] W fun e w'=>e=.returned (.tuple #[])/\(∃ aO H',H'.Perm (bT key 0 (L.take (i+1)))/\bK H'/\dY 173 176 w' hb (hb+1) (.func (.func K) #[] #[]) aO (.slice none 0 0) H')/\Gw w w'):=fun i hi hv H W bo sc h1 h2 h3 gW hbo=>by
  have bV:i<L.length:=by rw [LN.o];exact hi
  have sm:L[i]∈L:=List.getElem_mem bV;have few:H.length<=n:=by
   have e:=h1.length_eq;have:=Ed (key:=key) (L.take i) 0;simp at this;omega
  have LO:=eI _ sm;have ne:0<L[i].l.length->L[i].l≠[]:=fun h0 e=>by rw [e] at h0;simp at h0
  have wP:L[i].l.length<=4000000:=by
   rcases Nat.eq_zero_or_pos L[i].l.length with z | z
   ·omega
   ·exact (LO (ne z)).2.2.1
  have el:fV W L[i]:=by
   rcases Nat.eq_zero_or_pos L[i].l.length with z | z
   ·intro k y hy
    rw [List.length_eq_zero_iff.1 z] at hy;simp at hy
   ·exact (lL _ sm (ne z)).keep (gW.below.block _ (LO (ne z)).1)
  refine (Pw hb H.length (hb+1) K i hv _ H L[i] key FK rfl (by omega) (by omega) W h3 (Nat.le_refl _) h2 wP bo sc (fun h0=>?_) el (fun y hy=>?_)).mono fun e w' ⟨q1,⟨aO,H',q2,q3,q4,q5⟩,q6⟩=>⟨q1,⟨aO,H',?_,q3,q4⟩,Gx.gw gW q6 (fun q hq=>?_)⟩
  ·obtain ⟨z1,z2⟩:=hbo h0
   exact ⟨z1,z2,(LO (ne h0)).2.1,Nat.lt_of_lt_of_le (LO (ne h0)).1 gW.size⟩
  ·have h0:0<L[i].l.length:=List.length_pos_of_mem hy
   exact (LO (ne h0)).2.2.2 y hy
  ·rw [List.take_add_one,List.getElem?_eq_getElem bV,Option.toList_some,Pm]
   have e:0+(L.take i).length=i:=by simp;omega
   rw [e];refine q2.trans (List.Perm.append h1 ?_);simp [bT]
  ·have:=rF.o
   rcases hq with x | x
   ·omega
   ·have:=(mF h3.row q x).1;omega
 have Qg:ag (∀ (i:Nat) (hi:i<n) (W:World),Gw w W->∃ b off bo sc,ao=some ⟨b,off,none⟩/\W.cell? ⟨b,off+i,none⟩=some (.slice bo (L[i]'(by rw [LN.o];exact hi)).l.length sc)/\(0<(L[i]'(by rw [LN.o];exact hi)).l.length->bo=some ⟨(L[i]'(by rw [LN.o];exact hi)).b,(L[i]'(by rw [LN.o];exact hi)).off,none⟩/\sc=(L[i]'(by rw [LN.o];exact hi)).c)):=fun i hi W gW=>by
  obtain ⟨b,off,e,cY,hc⟩:=(Qf.o.gw gW).cells (by rw [LN.o];omega)
  obtain ⟨bo,sc,q1,q2⟩:=hc i (by rw [LN.o];exact hi)
  exact ⟨b,off,bo,sc,e,q1,q2⟩
 have aJ:ag (∀ (hv:Value) (H:List (Hd ah)) (W:World),H.Perm (bT key 0 (L.take n))->bK H->dY 173 176 W hb (hb+1) (.func (.func K) #[] #[]) hv (.slice none 0 0) H->Gw w W->Tl 173 176 (fV) ah.ok key L hb K [] L hv (.slice none 0 0) H [] W):=fun hv H W h1 h2 h3 gW=>by
  rw [List.take_of_length_le (by rw [LN.o];exact Nat.le_refl _)] at h1
  refine ⟨h1,h2,⟨h3,Eg _ _ _,fun q _ e=>by cases e⟩,fun s hs=>by have:=eI s hs;rw [rF.o] at this;exact this,fun s hs ne=>(lL s hs ne).keep (gW.below.block _ (eI s hs ne).1),fun out ho=>by simpa using ho,rfl,by simp,by simp⟩
 clear hv eI lL hn FK rE Qf;go_enter func90,ntmps90;rw [rF.o];go_wp2_with fail;rw [rF.o];go_loopg [13] n (fun gg rG wr=>∃ (i:Nat) (hv:Value) (H:List (Hd ah)),rG=.int .i64 (i:Int)/\i<=n/\n-i<=gg/\ag (H.Perm (bT key 0 (L.take i))/\bK H/\dY 173 176 wr hb (hb+1) (.func (.func K) #[] #[]) hv (.slice none 0 0) H)/\ag (Gw w wr))
 case atStart=>exact ⟨0,.slice none 0 0,[],rfl,Nat.zero_le _,by omega,⟨by simp [bT],(fun i _ hi=>by simp at hi),⟨B1.o,Eg _ _ _,fun q e=>by cases e⟩⟩,G1⟩
 case round =>
  obtain ⟨i,hv,H,rfl,i1,i2,HH,GG⟩:=hrel;by_cases il:i<n
  ·have DA:(i:Int)<(n:Int):=by omega
   obtain ⟨b,off,bo,sc,rfl,q1,q2⟩:=Qg.o i il wr GG.o;have PU:ag _:=fun W gW=>rD.o i il hv H W bo sc HH.o.1 HH.o.2.1 ⟨(gW.below.block _ (aE HH.o.2.2.blk)).trans HH.o.2.2.blk,tN HH.o.2.2.row gW,HH.o.2.2.ne⟩ (GG.o.trans gW) q2
   obtain ⟨ll,vW⟩:∃ ll,(L[i]'(by rw [LN.o];exact il)).l.length=ll:=⟨_,rfl⟩
   rw [vW] at q1 PU;clear q2 vW rD;go_wp2_with fail;refine (PU.o wr (Gw.refl _)).mono ?_;rintro ex u5 ⟨rfl,⟨aO,H',p1,p2,p3⟩,g5⟩;have H5:ag _:=And.intro p1 (And.intro p2 p3);have G5:ag _:=g5;clear p1 p2 p3 g5 PU;go_wp2_with fail;go_roundg (n-(i+1))
   case measure=>omega
   case rel=>exact ⟨i+1,aO,H',by go_num,by omega,Nat.le_refl _,H5,G5⟩
  ·have ei:i=n:=by omega
   subst ei;have DA:¬ ((i:Int)<(i:Int)):=by omega
   have FF:ag _:=aJ.o hv H wr HH.o.1 HH.o.2.1 HH.o.2.2 GG.o;clear aJ rD Qg;go_wp2_with fail;go_ret;exact ⟨rfl,⟨hv,H,FF.o⟩,GG.o⟩
structure lM (w:World) (bx base:Nat) (va:Value) (o:List ah):Prop where
 blk:w.heap[bx]?=some (.cells #[va] 35 (0,0))
 row:EO w base va o
 ne:∀ q,va.ownBlock=some q->q≠bx
theorem abO (bx base:Nat) (va:Value) (o:List ah) (x:ah) (w:World) (hb:base<=w.heap.size) (ho:o.length<=3000000) (h:lM w bx base va o) :
  Calls prog 67 #[fU x,.pointer (some ⟨bx,0,none⟩)] w fun e w'=>e=.returned (.bool true)/\(∃ iu,lM w' bx base iu (o++[x])/\(∀ q,iu.ownBlock=some q->va.ownBlock=some q\/w.heap.size<=q))/\Gx (fun q=>q=bx\/va.ownBlock=some q) w w':=by
 obtain ⟨hk,hr,ne⟩:=h;obtain ⟨n,hn⟩:∃ n,o.length=n:=⟨_,rfl⟩;have LN:ag _:=hn;rw [hn] at ho;have HB:ag _:=hk;have R0:ag _:=hr;have NE:ag _:=ne;have bl:bx<w.heap.size:=aE hk;have c0:w.cell? ⟨bx,0,none⟩=some va:=aD hk rfl;obtain ⟨xk,xv,xg⟩:=x;simp only [fU];obtain ⟨ii,aM,hz,bZ,aL⟩:=info_parts qN;obtain ⟨W1,E1⟩:∃ W1,w.alloc (.cells #[.int .u64 xk,.int .u64 xv,.bool xg] 40)=W1:=⟨_,rfl⟩;have G1:ag (Gw w W1):=by rw [<-E1];exact (Gw.refl w).alloc _ _
 have b1:W1.heap[w.heap.size]?=some (.cells #[.int .u64 xk,.int .u64 xv,.bool xg] 40 (0,0)):=by rw [<-E1];exact heap_alloc_new w _
 have d0:=aD (o:=0) b1 rfl;have d1:=aD (o:=1) b1 rfl;have d2:=aD (o:=2) b1 rfl;have k0:W1.cell? ⟨bx,0,none⟩=some va:=(G1.o.cell _ _ bl).trans c0;have l1:w.heap.size<W1.heap.size:=aE b1;have OW:ag ((W1.alloc (.cells #[.int .u64 xk,.int .u64 xv,.bool xg] 40)).ownsRow base 40 3 va n (o.flatMap bB)):=by
  have:=vI R0.o G1.o
  unfold EO at this;rw [LN.o] at this;exact this.alloc _
 have tU:ag (∀ (v':Value) (w7:World),w7.ownsRow base 40 3 v' (n+1) (o.flatMap bB++bB ⟨xk,xv,xg⟩)->(W1.alloc (.cells #[.int .u64 xk,.int .u64 xv,.bool xg] 40)).grownBy w7 va.ownBlock->(v'.ownBlock=va.ownBlock\/v'.ownBlock=some (W1.heap.size+1)) ->
   w7.heap[bx]?=some (.cells #[va] 35 (0,0))/\(∃ iu,lM (w7.setCell ⟨bx,0,none⟩ v') bx base iu (o++[⟨xk,xv,xg⟩])/\(∀ q,iu.ownBlock=some q->va.ownBlock=some q\/w.heap.size<=q))/\Gx (fun q=>q=bx\/va.ownBlock=some q) w (w7.setCell ⟨bx,0,none⟩ v')):=fun v' w7 r1 r2 r4=>by
  have s1:=G1.o.size;have b7:w7.heap[bx]?=some (.cells #[va] 35 (0,0)):=(r2.block bx (by simp;omega) (fun e=>NE.o bx e.symm rfl)).trans ((heap_alloc_old _ _ (by omega)).trans ((G1.o.below.block bx bl).trans HB.o))
  have nv:∀ q,v'.ownBlock=some q->va.ownBlock=some q\/w.heap.size<=q:=fun q hq=>by
   rcases r4 with e | e
   ·rw [e] at hq;exact .inl hq
   ·rw [e] at hq;cases hq;exact .inr (by omega)
  have ne':∀ q,v'.ownBlock=some q->q≠bx:=fun q hq=>by
   rcases nv q hq with e | e
   ·exact NE.o q e
   ·omega
  refine ⟨b7,⟨v',⟨lF b7 _,?_,ne'⟩,nv⟩,?_⟩
  ·exact DK (zF (by rw [LN.o];exact r1)) fun q hq=>Go.Deep.blk_setCell_other _ _ _ _ (ne' q hq)
  ·exact ((((G1.o.alloc _ _).gx _).grown r2 (fun q hq=>.inl (.inr hq))).set (.inl (Or.inl rfl)) _ _)
 clear hk hr ne hn c0 b1 R0 NE HB;go_enter func67,ntmps67;go_wp2_with (at_builtin;refine wpList_append_own_at _ rfl _ _ 35 rfl base 40 ii (.agg #[.int .u64 0,.int .u64 0,.bool false]) 3 24 underlying35 aM hz bZ aL rfl (by decide) _ n _ rfl OW.o ⟨W1.heap.size,0,none⟩ 1 1 (bB ⟨xk,xv,xg⟩) rfl rfl (tI W1 ⟨xk,xv,xg⟩) (qU _) (by simp only [maxLen];omega) (by omega) (by simp;omega) ?_)
 intro v' w7 r1 r2 r3 r4;obtain ⟨b8,cap8,ev,_,_,_⟩:=cS r1 (by simpa using r3)
 obtain ⟨B7,A7,G7⟩:=tU.o v' w7 r1 r2 (by simpa using r4)
 have k7:=aD (o:=0) B7 rfl;have f7:=dR (o:=0) B7;have l7:=aE B7;have A8:ag _:=And.intro A7 G7;clear B7 A7 G7 r1 r2 r3 r4 tU OW;subst ev;go_wp2_with fail;go_ret;exact ⟨rfl,A8.o.1,A8.o.2⟩
end Go.Proofs.YtklkpldicbkjeaaGreat
