/- Package merge: which of two heads is ahead; the first of three; a head rises. -/
import Derived.Deep.CutBlock
import Derived.Deep.DeepCutAuto
import Derived.StillTailTactics
import Derived.Test.YtcboobmfnmgldaaGreatBPEl
set_option linter.unusedVariables false
set_option maxHeartbeats 8000000
set_option maxRecDepth 20000
open Go.Proofs.Tryz
namespace Go.Proofs.YtcboobmfnmgldaaGreat
open Go.RowKit
variable {α:Type}
theorem Pf (x y:Hd α) (w:World):Calls prog 199 #[x.v,y.v] w fun e w'=>e=.returned (.bool (iG x y))/\Gw w w':=by
 obtain ⟨k1,i1,⟨b1,o1,c1,l1⟩⟩:=x;obtain ⟨k2,i2,⟨b2,o2,c2,l2⟩⟩:=y;simp only [Hd.v];obtain ⟨n1,nZ⟩:∃ n,l1.length=n:=⟨_,rfl⟩;obtain ⟨n2,fY⟩:∃ n,l2.length=n:=⟨_,rfl⟩;rw [nZ,fY];have AB:∀ r:Bool,((decide (k1<k2)||(decide (k1=k2)&&decide (i1<i2)))=r)->ag (iG (⟨k1,i1,⟨b1,o1,c1,l1⟩⟩:Hd α) ⟨k2,i2,⟨b2,o2,c2,l2⟩⟩=r):=fun r h=>h
 have G:ag (Gw w ((w.alloc (.cells #[By k1,AI (i1:Int),.slice (some ⟨b1,o1,none⟩) n1 c1] 243)).alloc (.cells #[By k2,AI (i2:Int),.slice (some ⟨b2,o2,none⟩) n2 c2] 243))):=((Gw.refl w).alloc _ _).alloc _ _;by_cases t1:k1<k2
 ·have A:=AB true (by simp [t1])
  have rC:decide (k1<k2)=true:=by simpa using t1
  clear AB t1;go_enter func199,ntmps199;go_wp2_with fail;go_ret;exact ⟨by rw [A.o];rfl,G.o⟩
 ·have rC:decide (k1<k2)=false:=by simpa using t1
  by_cases t2:k1=k2
  ·have Fk:(k1 == k2)=true:=by simpa using t2
   by_cases t3:i1<i2
   ·have A:=AB true (by simp [t2,t3])
    have t3':decide ((i1:Int)<(i2:Int))=true:=by simpa using t3
    clear AB t1 t2;go_enter func199,ntmps199;go_wp2_with fail;go_ret;exact ⟨by rw [A.o];rfl,G.o⟩
   ·have A:=AB false (by simp [t1,t3])
    have t3':decide ((i1:Int)<(i2:Int))=false:=by simpa using t3
    clear AB t1 t2;go_enter func199,ntmps199;go_wp2_with fail;go_ret;exact ⟨by rw [A.o];rfl,G.o⟩
  ·have A:=AB false (by simp [t1,t2])
   have Fk:(k1 == k2)=false:=by simpa using t2
   clear AB t1 t2;go_enter func199,ntmps199;go_wp2_with fail;go_ret;exact ⟨by rw [A.o];rfl,G.o⟩
theorem abB (hb a n g cap base:Nat) (kf pv:Value) (H:List (Hd α)) (hn:H.length=n) (fY:n<=4000000) (ha:a<=4000000) (w:World) (hh:w.heap[hb]?=some (.cells #[kf,.slice (some ⟨g,0,none⟩) n cap,pv] 240 (0,0))) (hr:HR 243 w base (.slice (some ⟨g,0,none⟩) n cap) H) :
  Calls prog 200 #[BY hb,AI (a:Int)] w fun e w'=>(∃ d:Nat,e=.returned (AI (d:Int))/\Ey H a d)/\Gw w w':=by
 obtain ⟨a2,rD⟩:∃ a2:Nat,a2=2*a:=⟨_,rfl⟩;obtain ⟨c1,Pg⟩:∃ c:Nat,c=2*a+1:=⟨_,rfl⟩;obtain ⟨c2,Ph⟩:∃ c:Nat,c=2*a+2:=⟨_,rfl⟩;have w1:IntKind.i64.wrap (2*(a:Int))=(a2:Int):=by rw [IntKind.wrap_i64];omega
 have w2:IntKind.i64.wrap ((a2:Int)+1)=(c1:Int):=by rw [IntKind.wrap_i64];omega
 have w3:IntKind.i64.wrap ((a2:Int)+2)=(c2:Int):=by rw [IntKind.wrap_i64];omega
 have C1:ag _:=Pg;have C2:ag _:=Ph;have HB:ag _:=hh;have Fl:ag _:=hr;have LN:ag _:=hn;have AH:ag (∀ (x y:Hd α) (W:World),Calls prog 199 #[x.v,y.v] W fun e w'=>e=.returned (.bool (iG x y))/\Gw W w'):=fun x y W=>Pf x y W
 have wI:=(eJ hr hn).2.1;have cH:∀ W:World,(Instr.index 297 (.agg #[AI (c1:Int),AI (c2:Int)]) (AI 0)).run prog W=.ok (AI (c1:Int)) W:=fun _=>by kernel_rfl
 have wJ:∀ W:World,(Instr.index 297 (.agg #[AI (c1:Int),AI (c2:Int)]) (AI 1)).run prog W=.ok (AI (c2:Int)) W:=fun _=>by kernel_rfl
 clear hh hr hn rD Pg Ph;go_enter func200,ntmps200;go_wp2_with fail;go_loopg [5,16] 2 (fun gg s5 s16 wr=>∃ (f j:Nat),s5=AI (f:Int)/\s16=AI (j:Int)/\j<=2/\2-j<=gg/\ag (fj H a j f)/\ag (Gw w wr))
 case atStart=>exact ⟨a,0,rfl,rfl,Nat.zero_le _,by omega,fj.start H a,Gw.refl w⟩
 case round =>
  obtain ⟨f,j,rfl,rfl,j2,jg,BI,GG⟩:=hrel;have bu:hb<w.heap.size:=aC HB.o;have gl:g<w.heap.size:=(eJ Fl.o LN.o).2.2.1;have kJ:wr.cell? ⟨hb,1,none⟩=some (.slice (some ⟨g,0,none⟩) n cap):=(GG.o.cell _ _ bu).trans (aj HB.o rfl);by_cases jl:j<2
  ·rcases (show j=0\/j=1 by omega) with rfl | rfl
   ·by_cases cl:c1<n
    ·have Fm:decide ((c1:Int)<(n:Int))=true:=by simpa using cl
     have fl:f<n:=by have:=BI.o.lt C1.o (by rw [LN.o];exact cl);rw [LN.o] at this;exact this
     have cO:=(eJ Fl.o LN.o).2.2.2;obtain ⟨e0,e1,e2⟩:=cO c1 cl;obtain ⟨f0,f1,f2⟩:=cO f fl;clear cO;obtain ⟨x,hx⟩:∃ x,gt H c1=x:=⟨_,rfl⟩;obtain ⟨y,hy⟩:∃ y,gt H f=y:=⟨_,rfl⟩;have jq:ag (iG x y=false->fj H a (0+1) f):=fun q=>BI.o.stay C1.o (by rw [hx,hy];exact Ex.1 q)
     have n6:ag (iG x y=true->fj H a (0+1) c1):=fun q=>BI.o.turn (by omega) C1.o (by rw [LN.o];exact cl) (by rw [hx,hy];exact Ag.1 q)
     rw [hx] at e0 e1 e2;rw [hy] at f0 f1 f2;have AX:=AH.o x y;obtain ⟨ab,cT⟩:∃ ab,iG x y=ab:=⟨_,rfl⟩;rw [cT] at AX jq n6;obtain ⟨xk,xi,⟨xb,xo,xc,xl⟩⟩:=x;obtain ⟨yk,yi,⟨yb,yo,yc,yl⟩⟩:=y;simp only [Hd.v,aJ.v] at AX e2 f2;obtain ⟨xn,iI⟩:∃ m,xl.length=m:=⟨_,rfl⟩;obtain ⟨yn,fZ⟩:∃ m,yl.length=m:=⟨_,rfl⟩;rw [iI] at AX e2;rw [fZ] at AX f2;have uf:ag _:=AX;have HW:ag (∀ w',Gw wr w'->Gw wr w'/\w'.cell? ⟨hb,1,none⟩=some (.slice (some ⟨g,0,none⟩) n cap)/\w'.cell? ⟨g,c1*3,none⟩=some (By xk)/\w'.cell? ⟨g,c1*3+1,none⟩=some (AI (xi:Int))/\w'.cell? ⟨g,c1*3+2,none⟩=some (.slice (some ⟨xb,xo,none⟩) xn xc)/\w'.cell? ⟨g,f*3,none⟩=some (By yk)/\w'.cell? ⟨g,f*3+1,none⟩=some (AI (yi:Int))/\w'.cell? ⟨g,f*3+2,none⟩=some (.slice (some ⟨yb,yo,none⟩) yn yc)):=fun w' gg=>by
      have G':=GG.o.trans gg;have k:=fun o=>G'.cell g o gl
      exact ⟨gg,(gg.cell _ _ (Nat.lt_of_lt_of_le bu GG.o.size)).trans kJ,(k _).trans e0,(k _).trans e1,(k _).trans e2,(k _).trans f0,(k _).trans f1,(k _).trans f2⟩
     clear hx hy cT iI fZ AX e0 e1 e2 f0 f1 f2 kJ BI;obtain ⟨wS,bj⟩:∃ wx,wx=wr:=⟨_,rfl⟩;subst bj;go_wp2_with fail;go_region_held3 (fun w'=>Gw wS w'/\w'.cell? ⟨hb,1,none⟩=some (.slice (some ⟨g,0,none⟩) n cap)/\w'.cell? ⟨g,c1*3,none⟩=some (By xk)/\w'.cell? ⟨g,c1*3+1,none⟩=some (AI (xi:Int))/\w'.cell? ⟨g,c1*3+2,none⟩=some (.slice (some ⟨xb,xo,none⟩) xn xc)/\w'.cell? ⟨g,f*3,none⟩=some (By yk)/\w'.cell? ⟨g,f*3+1,none⟩=some (AI (yi:Int))/\w'.cell? ⟨g,f*3+2,none⟩=some (.slice (some ⟨yb,yo,none⟩) yn yc))
      ((refine HW.o _ ?_;(repeat (first | exact Gw.refl _ | exact And.left (by assumption) | exact ag.o (by assumption) | refine Gw.drew ?_ | refine Gw.drewN ?_ _));done))
      ((go_at_call 199;refine (uf.o _).mono ?_;rintro ex u5 ⟨rfl,g5⟩;have G5:ag (Gw wS u5):=Gw.trans (by repeat (first | exact Gw.refl _ | exact And.left (by assumption) | exact ag.o (by assumption) | refine Gw.drew ?_ | refine Gw.drewN ?_ _)) g5;clear g5))
     have GX:ag _:=GG.o.trans G5.o;cases ab with
     | true =>
      have D:=n6.o rfl;have DD:ag _:=D;clear D jq n6 HW;go_wp2_with fail;go_roundg (2-(0+1))
      case measure=>omega
      case rel=>exact ⟨c1,0+1,rfl,by go_num,by omega,Nat.le_refl _,DD,GX⟩
     | false =>
      have D:=jq.o rfl;have DD:ag _:=D;clear D jq n6 HW;go_wp2_with fail;go_roundg (2-(0+1))
      case measure=>omega
      case rel=>exact ⟨f,0+1,rfl,by go_num,by omega,Nat.le_refl _,DD,GX⟩
    ·have Fm:decide ((c1:Int)<(n:Int))=false:=by simp;omega
     have D:=BI.o.o C1.o (by rw [LN.o];exact cl)
     have DD:ag _:=D;clear D BI;go_wp2_with fail;go_quiet (fail);go_wp2_with fail;go_roundg (2-(0+1))
     case measure=>omega
     case rel=>exact ⟨f,0+1,rfl,by go_num,by omega,Nat.le_refl _,DD,(show ag _ from by repeat (first | exact GG.o | refine Gw.drew ?_ | refine Gw.drewN ?_ _))⟩
   ·by_cases cl:c2<n
    ·have Fm:decide ((c2:Int)<(n:Int))=true:=by simpa using cl
     have fl:f<n:=by have:=BI.o.lt C2.o (by rw [LN.o];exact cl);rw [LN.o] at this;exact this
     have cO:=(eJ Fl.o LN.o).2.2.2;obtain ⟨e0,e1,e2⟩:=cO c2 cl;obtain ⟨f0,f1,f2⟩:=cO f fl;clear cO;obtain ⟨x,hx⟩:∃ x,gt H c2=x:=⟨_,rfl⟩;obtain ⟨y,hy⟩:∃ y,gt H f=y:=⟨_,rfl⟩;have jq:ag (iG x y=false->fj H a (1+1) f):=fun q=>BI.o.stay C2.o (by rw [hx,hy];exact Ex.1 q)
     have n6:ag (iG x y=true->fj H a (1+1) c2):=fun q=>BI.o.turn (by omega) C2.o (by rw [LN.o];exact cl) (by rw [hx,hy];exact Ag.1 q)
     rw [hx] at e0 e1 e2;rw [hy] at f0 f1 f2;have AX:=AH.o x y;obtain ⟨ab,cT⟩:∃ ab,iG x y=ab:=⟨_,rfl⟩;rw [cT] at AX jq n6;obtain ⟨xk,xi,⟨xb,xo,xc,xl⟩⟩:=x;obtain ⟨yk,yi,⟨yb,yo,yc,yl⟩⟩:=y;simp only [Hd.v,aJ.v] at AX e2 f2;obtain ⟨xn,iI⟩:∃ m,xl.length=m:=⟨_,rfl⟩;obtain ⟨yn,fZ⟩:∃ m,yl.length=m:=⟨_,rfl⟩;rw [iI] at AX e2;rw [fZ] at AX f2;have uf:ag _:=AX;have HW:ag (∀ w',Gw wr w'->Gw wr w'/\w'.cell? ⟨hb,1,none⟩=some (.slice (some ⟨g,0,none⟩) n cap)/\w'.cell? ⟨g,c2*3,none⟩=some (By xk)/\w'.cell? ⟨g,c2*3+1,none⟩=some (AI (xi:Int))/\w'.cell? ⟨g,c2*3+2,none⟩=some (.slice (some ⟨xb,xo,none⟩) xn xc)/\w'.cell? ⟨g,f*3,none⟩=some (By yk)/\w'.cell? ⟨g,f*3+1,none⟩=some (AI (yi:Int))/\w'.cell? ⟨g,f*3+2,none⟩=some (.slice (some ⟨yb,yo,none⟩) yn yc)):=fun w' gg=>by
      have G':=GG.o.trans gg;have k:=fun o=>G'.cell g o gl
      exact ⟨gg,(gg.cell _ _ (Nat.lt_of_lt_of_le bu GG.o.size)).trans kJ,(k _).trans e0,(k _).trans e1,(k _).trans e2,(k _).trans f0,(k _).trans f1,(k _).trans f2⟩
     clear hx hy cT iI fZ AX e0 e1 e2 f0 f1 f2 kJ BI;obtain ⟨wS,bj⟩:∃ wx,wx=wr:=⟨_,rfl⟩;subst bj;go_wp2_with fail;go_region_held3 (fun w'=>Gw wS w'/\w'.cell? ⟨hb,1,none⟩=some (.slice (some ⟨g,0,none⟩) n cap)/\w'.cell? ⟨g,c2*3,none⟩=some (By xk)/\w'.cell? ⟨g,c2*3+1,none⟩=some (AI (xi:Int))/\w'.cell? ⟨g,c2*3+2,none⟩=some (.slice (some ⟨xb,xo,none⟩) xn xc)/\w'.cell? ⟨g,f*3,none⟩=some (By yk)/\w'.cell? ⟨g,f*3+1,none⟩=some (AI (yi:Int))/\w'.cell? ⟨g,f*3+2,none⟩=some (.slice (some ⟨yb,yo,none⟩) yn yc))
      ((refine HW.o _ ?_;(repeat (first | exact Gw.refl _ | exact And.left (by assumption) | exact ag.o (by assumption) | refine Gw.drew ?_ | refine Gw.drewN ?_ _));done))
      ((go_at_call 199;refine (uf.o _).mono ?_;rintro ex u5 ⟨rfl,g5⟩;have G5:ag (Gw wS u5):=Gw.trans (by repeat (first | exact Gw.refl _ | exact And.left (by assumption) | exact ag.o (by assumption) | refine Gw.drew ?_ | refine Gw.drewN ?_ _)) g5;clear g5))
     have GX:ag _:=GG.o.trans G5.o;cases ab with
     | true =>
      have D:=n6.o rfl;have DD:ag _:=D;clear D jq n6 HW;go_wp2_with fail;go_roundg (2-(1+1))
      case measure=>omega
      case rel=>exact ⟨c2,1+1,rfl,by go_num,by omega,Nat.le_refl _,DD,GX⟩
     | false =>
      have D:=jq.o rfl;have DD:ag _:=D;clear D jq n6 HW;go_wp2_with fail;go_roundg (2-(1+1))
      case measure=>omega
      case rel=>exact ⟨f,1+1,rfl,by go_num,by omega,Nat.le_refl _,DD,GX⟩
    ·have Fm:decide ((c2:Int)<(n:Int))=false:=by simp;omega
     have D:=BI.o.o C2.o (by rw [LN.o];exact cl)
     have DD:ag _:=D;clear D BI;go_wp2_with fail;go_quiet (fail);go_wp2_with fail;go_roundg (2-(1+1))
     case measure=>omega
     case rel=>exact ⟨f,1+1,rfl,by go_num,by omega,Nat.le_refl _,DD,(show ag _ from by repeat (first | exact GG.o | refine Gw.drew ?_ | refine Gw.drewN ?_ _))⟩
  ·have ej:j=2:=by omega
   subst ej;have DN:ag _:=BI.o.done;clear BI;go_wp2_with fail;go_ret;exact ⟨⟨f,rfl,DN.o⟩,GG.o⟩
theorem abC (hb a n g cap base:Nat) (kf pv:Value) (H:List (Hd α)) (hn:H.length=n) (fY:n<=4000000) (ha:a<n) (w:World) (hp:dZ 240 243 w hb base kf (.slice (some ⟨g,0,none⟩) n cap) pv H) (hR:lC H a) :
  Calls prog 179 #[BY hb,AI (a:Int)] w fun e w'=>e=.returned (.tuple #[])/\(∃ H',H'.Perm H/\bP H'/\HR 243 w' base (.slice (some ⟨g,0,none⟩) n cap) H')/\Gx (fun q=>q=g) w w':=by
 obtain ⟨hh,hr,ne⟩:=hp;have gJ:g≠hb:=ne g rfl;have HB:ag _:=hh;have AH:ag (∀ (x y:Hd α) (W:World),Calls prog 199 #[x.v,y.v] W fun e w'=>e=.returned (.bool (iG x y))/\Gw W w'):=fun x y W=>Pf x y W
 have bu:hb<w.heap.size:=aC hh;have gl:g<w.heap.size:=(eJ hr hn).2.2.1;have wI:=(eJ hr hn).2.1;have R0:ag _:=hr;have Fo:ag _:=hR;have LN:ag _:=hn;clear hh hr ne hR hn;go_enter func179,ntmps179;go_wp2_with fail;go_loopg [1] a (fun gg s1 wr=>∃ (b:Nat) (H':List (Hd α)),s1=AI (b:Int)/\b<n/\b<=gg/\ag (lC H' b/\H'.Perm H/\H'.length=n/\HR 243 wr base (.slice (some ⟨g,0,none⟩) n cap) H')/\ag (Gx (fun q=>q=g) w wr))
 case atStart=>exact ⟨a,H,rfl,ha,Nat.le_refl _,⟨Fo.o,List.Perm.refl _,LN.o,R0.o⟩,Gx.refl _ _⟩
 case round =>
  obtain ⟨b,H',rfl,bn,bg,HH,GG⟩:=hrel;have kJ:wr.heap[hb]?=some (.cells #[kf,.slice (some ⟨g,0,none⟩) n cap,pv] 240 (0,0)):=(GG.o.block _ bu (fun e=>gJ e.symm)).trans HB.o
  have Ap:ag _:=kJ;by_cases b0:0<b
  ·have Dq:decide ((0:Int)<(b:Int))=true:=by simpa using b0
   obtain ⟨p,hp⟩:∃ p:Nat,p=b-1:=⟨_,rfl⟩;obtain ⟨u,hu⟩:∃ u:Nat,u=(b-1)/2:=⟨_,rfl⟩;have w1:IntKind.i64.wrap ((b:Int)-1)=(p:Int):=by rw [IntKind.wrap_i64];omega
   have w2:ag (wrap64 ((p:Int)/2)=(u:Int)):=by
    show _=_;have e:(p:Int)/2=(u:Int):=by omega
    rw [e];unfold wrap64;omega
   have un:u<n:=by omega
   have ub:u<b:=by omega
   have UE:ag _:=hu;obtain ⟨x,hx⟩:∃ x,gt H' b=x:=⟨_,rfl⟩;obtain ⟨y,hy⟩:∃ y,gt H' u=y:=⟨_,rfl⟩;have cO:=(eJ HH.o.2.2.2 HH.o.2.2.1).2.2.2;obtain ⟨e0,e1,e2⟩:=cO b bn;obtain ⟨f0,f1,f2⟩:=cO u un;have fz:=(eJ HH.o.2.2.2 HH.o.2.2.1).1;clear cO hp;rw [hx] at e0 e1 e2;rw [hy] at f0 f1 f2;have Aq:ag (iG x y=false->bP H'):=fun q=>HH.o.1.done (.inr (by rw [<-UE.o,hx,hy];exact Ex.1 q))
   have Ar:ag (iG x y=true->lC (swp H' b u) u):=fun q=>by
    have:=HH.o.1.step (by rw [HH.o.2.2.1];exact bn) b0 (by rw [<-UE.o,hx,hy];exact Ag.1 q)
    rw [<-UE.o] at this;exact this
   have wK:ag ((swp H' b u).Perm H/\(swp H' b u).length=n):=⟨(Oe H' (by rw [HH.o.2.2.1];exact bn) (by rw [HH.o.2.2.1];exact un)).trans HH.o.2.1,by rw [tQ];exact HH.o.2.2.1⟩
   have As:ag (∀ W',HR 243 W' base (.slice (some ⟨g,0,none⟩) n cap) H'->_):=fun W' h=>OI h HH.o.2.2.1 bn un (by omega) hx hy
   have AX:=AH.o x y;obtain ⟨ab,cT⟩:∃ ab,iG x y=ab:=⟨_,rfl⟩;rw [cT] at AX Aq Ar;obtain ⟨xk,xi,⟨xb,xo,xc,xl⟩⟩:=x;obtain ⟨yk,yi,⟨yb,yo,yc,yl⟩⟩:=y;simp only [Hd.v,aJ.v] at AX e2 f2;obtain ⟨xn,iI⟩:∃ m,xl.length=m:=⟨_,rfl⟩;obtain ⟨yn,fZ⟩:∃ m,yl.length=m:=⟨_,rfl⟩;rw [iI] at AX e2;rw [fZ] at AX f2;simp only [jQ,aJ.v,iI,fZ] at As;have uf:ag _:=AX;have ug:hb<wr.heap.size:=aC kJ;have gr:g<wr.heap.size:=(eJ HH.o.2.2.2 HH.o.2.2.1).2.2.1;have HW:ag (∀ w',Gw wr w'->Gw wr w'/\w'.cell? ⟨hb,1,none⟩=some (.slice (some ⟨g,0,none⟩) n cap)/\w'.cell? ⟨g,b*3,none⟩=some (By xk)/\w'.cell? ⟨g,b*3+1,none⟩=some (AI (xi:Int))/\w'.cell? ⟨g,b*3+2,none⟩=some (.slice (some ⟨xb,xo,none⟩) xn xc)/\w'.cell? ⟨g,u*3,none⟩=some (By yk)/\w'.cell? ⟨g,u*3+1,none⟩=some (AI (yi:Int))/\w'.cell? ⟨g,u*3+2,none⟩=some (.slice (some ⟨yb,yo,none⟩) yn yc)):=fun w' gg=>by
    have k:=fun o=>gg.cell g o gr
    exact ⟨gg,(gg.cell _ _ ug).trans (aj kJ rfl),(k _).trans e0,(k _).trans e1,(k _).trans e2,(k _).trans f0,(k _).trans f1,(k _).trans f2⟩
   clear hx hy cT iI fZ AX e0 e1 e2 f0 f1 f2 kJ fz hu;obtain ⟨wS,bj⟩:∃ wx,wx=wr:=⟨_,rfl⟩;subst bj;go_wp2_with fail;rw [w2.o];go_region_held3 (fun w'=>Gw wS w'/\w'.cell? ⟨hb,1,none⟩=some (.slice (some ⟨g,0,none⟩) n cap)/\w'.cell? ⟨g,b*3,none⟩=some (By xk)/\w'.cell? ⟨g,b*3+1,none⟩=some (AI (xi:Int))/\w'.cell? ⟨g,b*3+2,none⟩=some (.slice (some ⟨xb,xo,none⟩) xn xc)/\w'.cell? ⟨g,u*3,none⟩=some (By yk)/\w'.cell? ⟨g,u*3+1,none⟩=some (AI (yi:Int))/\w'.cell? ⟨g,u*3+2,none⟩=some (.slice (some ⟨yb,yo,none⟩) yn yc))
    ((refine HW.o _ ?_;(repeat (first | exact Gw.refl _ | exact And.left (by assumption) | exact ag.o (by assumption) | refine Gw.drew ?_ | refine Gw.drewN ?_ _));done))
    ((go_at_call 199;refine (uf.o _).mono ?_;rintro ex u5 ⟨rfl,g5⟩;have G5:ag (Gw wS u5):=Gw.trans (by repeat (first | exact Gw.refl _ | exact And.left (by assumption) | exact ag.o (by assumption) | refine Gw.drew ?_ | refine Gw.drewN ?_ _)) g5;clear g5))
   obtain ⟨_,t0,t1,t2,t3,t4,t5,t6⟩:=HW.o u5 G5.o;have RX:ag _:=tT HH.o.2.2.2 G5.o;have GX:ag _:=GG.o.tw G5.o;have fz:=(eJ RX.o HH.o.2.2.1).1;cases ab with
   | false =>
    have D:=Aq.o rfl;have DD:ag _:=D;clear D Aq Ar HW As;go_wp2_with fail;refine bodyPost_ret (results_none rfl _ _ _) rfl ?_;exact ⟨rfl,⟨H',HH.o.2.1,DD.o,RX.o⟩,GX.o⟩
   | true =>
    have D:=Ar.o rfl;have DD:ag _:=D;obtain ⟨W1,W2,E1,E2,RY,kp,oa,⟨r0,r1,r2⟩,g2⟩:=As.o u5 RX.o;have Fp:ag _:=RY;have G2:ag _:=GX.o.trans g2 (fun q hq=>.inl hq)
    have t0':W1.cell? ⟨hb,1,none⟩=some (.slice (some ⟨g,0,none⟩) n cap):=by
     have e:W1.heap[hb]?=u5.heap[hb]?:=kp hb (fun e=>gJ e.symm)
     rw [World.cell?_of_block e];exact t0
    have Pj:=fz (b*3);have Pk:=fz (b*3+1);have Pm:=fz (b*3+2);have fz3:=oa (u*3);have fz4:=oa (u*3+1);have fz5:=oa (u*3+2);clear fz oa D Aq Ar HW As uf kp RY g2;have Fq:hb≠g:=fun e=>gJ e.symm
    go_wp2_with fail;go_big_region
    go_wp2_with fail;go_roundg u
    case measure=>omega
    case rel=>exact ⟨u,swp H' b u,rfl,un,Nat.le_refl _,⟨DD.o,wK.o.1,wK.o.2,Fp.o⟩,(show ag _ from G2.o.drew)⟩
  ·have Dq:decide ((0:Int)<(b:Int))=false:=by simp;omega
   have DD:ag _:=HH.o.1.done (.inl (by omega))
   go_wp2_with fail;go_end0
   exact ⟨rfl,⟨H',HH.o.2.1,DD.o,HH.o.2.2.2⟩,GG.o⟩
theorem abD (hb a n g cap base:Nat) (kf pv:Value) (H:List (Hd α)) (hn:H.length=n) (fY:n<=4000000) (ha:a<=n) (w:World) (hp:dZ 240 243 w hb base kf (.slice (some ⟨g,0,none⟩) n cap) pv H) (hR:nR H a) :
  Calls prog 180 #[BY hb,AI (a:Int)] w fun e w'=>e=.returned (.tuple #[])/\(∃ H',H'.Perm H/\bP H'/\HR 243 w' base (.slice (some ⟨g,0,none⟩) n cap) H')/\Gx (fun q=>q=g) w w':=by
 obtain ⟨hh,hr,ne⟩:=hp;have gJ:g≠hb:=ne g rfl;have HB:ag _:=hh;have BL:ag (∀ (a:Nat) (H:List (Hd α)) (W:World),H.length=n->a<=4000000->W.heap[hb]?=some (.cells #[kf,.slice (some ⟨g,0,none⟩) n cap,pv] 240 (0,0))->HR 243 W base (.slice (some ⟨g,0,none⟩) n cap) H->Calls prog 200 #[BY hb,AI (a:Int)] W fun e w'=>(∃ d:Nat,e=.returned (AI (d:Int))/\Ey H a d)/\Gw W w'):=fun a H W h1 h2 h3 h4=>abB hb a n g cap base kf pv H h1 fY h2 W h3 h4
 have bu:hb<w.heap.size:=aC hh;have wI:=(eJ hr hn).2.1;have R0:ag _:=hr;have Fo:ag _:=hR;have LN:ag _:=hn;clear hh hr ne hR hn;go_enter func180,ntmps180;go_wp2_with fail;go_loopg [1] (n-a) (fun gg s1 wr=>∃ (b:Nat) (H':List (Hd α)),s1=AI (b:Int)/\b<=n/\n-b<=gg/\ag (nR H' b/\H'.Perm H/\H'.length=n/\HR 243 wr base (.slice (some ⟨g,0,none⟩) n cap) H')/\ag (Gx (fun q=>q=g) w wr))
 case atStart=>exact ⟨a,H,rfl,ha,Nat.le_refl _,⟨Fo.o,List.Perm.refl _,LN.o,R0.o⟩,Gx.refl _ _⟩
 case round =>
  obtain ⟨b,H',rfl,bn,bg,HH,GG⟩:=hrel;have kJ:wr.heap[hb]?=some (.cells #[kf,.slice (some ⟨g,0,none⟩) n cap,pv] 240 (0,0)):=(GG.o.block _ bu (fun e=>gJ e.symm)).trans HB.o
  have Ap:ag _:=kJ;clear kJ;go_wp2_with fail;refine (BL.o b H' _ HH.o.2.2.1 (by omega) Ap.o HH.o.2.2.2).mono ?_
  rintro ex u5 ⟨⟨d,rfl,hd⟩,g5⟩;have HD:ag _:=hd;have RX:ag _:=tT HH.o.2.2.2 g5;have GX:ag _:=GG.o.tw g5;have HB5:ag (u5.heap[hb]?=some (.cells #[kf,.slice (some ⟨g,0,none⟩) n cap,pv] 240 (0,0))):=(g5.below.block _ (aC Ap.o)).trans Ap.o;clear hd g5;by_cases db:d=b
  ·subst db
   have db':((d:Int) == (d:Int))=true:=by simp
   have DD:ag (bP H'):=HH.o.1.done (by
    rcases HD.o with q | q
    ·exact q.2
    ·exact absurd q.1 (Nat.lt_irrefl _))
   go_wp2_with fail;refine bodyPost_ret (results_none rfl _ _ _) rfl ?_
   exact ⟨rfl,⟨H',HH.o.2.1,DD.o,RX.o⟩,GX.o⟩
  ·have db':((d:Int) == (b:Int))=false:=by simp;omega
   have rE:ag (b<d/\d<H'.length/\(d-1)/2=b/\(gt H' d).lt (gt H' b)/\∀ c,0<c->c<H'.length->(c-1)/2=b->¬ (gt H' c).lt (gt H' d)):=by
    rcases HD.o with q | q
    ·exact absurd q.1 db
    ·exact q
   have dn:d<n:=by have:=rE.o.2.1;rw [HH.o.2.2.1] at this;exact this
   have bd:b<d:=rE.o.1;have Fs:b<n:=by omega
   have DD:ag _:=HH.o.1.step bd rE.o.2.1 rE.o.2.2.1 rE.o.2.2.2.1 rE.o.2.2.2.2;have wK:ag ((swp H' b d).Perm H/\(swp H' b d).length=n):=⟨(Oe H' (by rw [HH.o.2.2.1];exact Fs) rE.o.2.1).trans HH.o.2.1,by rw [tQ];exact HH.o.2.2.1⟩
   obtain ⟨x,hx⟩:∃ x,gt H' b=x:=⟨_,rfl⟩;obtain ⟨y,hy⟩:∃ y,gt H' d=y:=⟨_,rfl⟩;have cO:=(eJ RX.o HH.o.2.2.1).2.2.2;have fz:=(eJ RX.o HH.o.2.2.1).1;obtain ⟨e0,e1,e2⟩:=cO b Fs;obtain ⟨f0,f1,f2⟩:=cO d dn;obtain ⟨W1,W2,E1,E2,RY,kp,oa,⟨r0,r1,r2⟩,g2⟩:=OI RX.o HH.o.2.2.1 Fs dn (by omega) hx hy
   rw [hx] at e0 e1 e2;rw [hy] at f0 f1 f2;have Fp:ag _:=RY;have G2:ag _:=GX.o.trans g2 (fun q hq=>.inl hq)
   have t0:u5.cell? ⟨hb,1,none⟩=some (.slice (some ⟨g,0,none⟩) n cap):=aj HB5.o rfl;have t0':W1.cell? ⟨hb,1,none⟩=some (.slice (some ⟨g,0,none⟩) n cap):=by
    have e:W1.heap[hb]?=u5.heap[hb]?:=kp hb (fun e=>gJ e.symm)
    rw [World.cell?_of_block e];exact t0
   have Pj:=fz (b*3);have Pk:=fz (b*3+1);have Pm:=fz (b*3+2);have fz3:=oa (d*3);have fz4:=oa (d*3+1);have fz5:=oa (d*3+2);obtain ⟨xk,xi,⟨xb,xo,xc,xl⟩⟩:=x;obtain ⟨yk,yi,⟨yb,yo,yc,yl⟩⟩:=y;simp only [jQ,aJ.v] at e2 f2 E1 E2 r2;obtain ⟨xn,iI⟩:∃ m,xl.length=m:=⟨_,rfl⟩;obtain ⟨yn,fZ⟩:∃ m,yl.length=m:=⟨_,rfl⟩;rw [iI] at e2 E2;rw [fZ] at f2 E1 r2;clear fz oa kp RY g2 hx hy cO iI fZ BL;have Fq:hb≠g:=fun e=>gJ e.symm
   go_wp2_with fail;go_big_region
   go_wp2_with fail;go_roundg (n-d)
   case measure=>omega
   case rel=>exact ⟨d,swp H' b d,rfl,by omega,Nat.le_refl _,⟨DD.o,wK.o.1,wK.o.2,Fp.o⟩,(show ag _ from G2.o.drew)⟩
theorem abE (hb n g cap base:Nat) (kf pv:Value) (H:List (Hd α)) (hn:H.length=n) (h1:1<=n) (fY:n<=4000000) (w:World) (hp:dZ 240 243 w hb base kf (.slice (some ⟨g,0,none⟩) n cap) pv H) (hH:bP H) :
  Calls prog 158 #[BY hb] w fun e w'=>e=.returned (gt H 0).v/\(∃ H',(gt H 0::H').Perm H/\bP H'/\H'.length=n-1/\dZ 240 243 w' hb base kf (.slice (some ⟨g,0,none⟩) (n-1) cap) pv H')/\Gx (fun q=>q=hb\/q=g) w w':=by
 obtain ⟨hh,hr,ne⟩:=hp;have gJ:g≠hb:=ne g rfl;have Fq:hb≠g:=fun e=>gJ e.symm
 obtain ⟨m,hm⟩:∃ m:Nat,m=n-1:=⟨_,rfl⟩;have w1:IntKind.i64.wrap ((n:Int)-1)=(m:Int):=by rw [IntKind.wrap_i64];omega
 have bu:hb<w.heap.size:=aC hh;have gl:g<w.heap.size:=(eJ hr hn).2.2.1;have wI:=(eJ hr hn).2.1;have mn:m<n:=by omega
 have mc:m<=cap:=by omega
 have cz:¬ cap=0:=by omega
 have HB:ag _:=hh;have R0:ag _:=hr;have LN:ag (H.length=n):=hn;have MN:ag (m=n-1):=hm;have Pn:w.cell? ⟨hb,1,none⟩=some (.slice (some ⟨g,0,none⟩) n cap):=aj hh rfl;obtain ⟨x,hx⟩:∃ x,gt H 0=x:=⟨_,rfl⟩;obtain ⟨y,hy⟩:∃ y,gt H m=y:=⟨_,rfl⟩;have HH:ag (bP H):=hH;have SK:ag (∀ (H:List (Hd α)) (W:World),H.length=m->dZ 240 243 W hb base kf (.slice (some ⟨g,0,none⟩) m cap) pv H->nR H 0->Calls prog 180 #[BY hb,AI 0] W fun e w'=>e=.returned (.tuple #[])/\(∃ H',H'.Perm H/\bP H'/\HR 243 w' base (.slice (some ⟨g,0,none⟩) m cap) H')/\Gx (fun q=>q=g) W w'):=fun H W h1 h2 h3=>abD hb 0 m g cap base kf pv H h1 (by omega) (Nat.zero_le _) W h2 h3
 have XV:ag _:=hx;have YV:ag _:=hy;obtain ⟨xk,xi,⟨xb,xo,xc,xl⟩⟩:=x;obtain ⟨yk,yi,⟨yb,yo,yc,yl⟩⟩:=y;obtain ⟨xn,iI⟩:∃ m,xl.length=m:=⟨_,rfl⟩;obtain ⟨yn,fZ⟩:∃ m,yl.length=m:=⟨_,rfl⟩;have XN:ag _:=iI;have YN:ag _:=fZ;have cO:=(eJ hr hn).2.2.2;obtain ⟨e0,e1,e2⟩:=cO 0 (by omega)
 rw [hx] at e0 e1 e2;simp only [Nat.zero_mul,Nat.zero_add,aJ.v,iI] at e0 e1 e2;have RET:ag ((gt H 0).v=.agg #[By xk,AI (xi:Int),.slice (some ⟨xb,xo,none⟩) xn xc]):=by
  show _=_;rw [XV.o,<-XN.o];rfl
 rw [RET.o];clear hh hr ne hn cO hx hy iI fZ hH hm;go_enter func158,ntmps158;go_wp2_with fail;obtain ⟨N,hN⟩:∃ N,w.heap.size=N:=⟨_,rfl⟩;obtain ⟨W2,pH⟩:∃ W2,(w.alloc (.cells #[By 0,AI 0,.slice none 0 0] 243)).alloc (.cells #[By xk,AI (xi:Int),.slice (some ⟨xb,xo,none⟩) xn xc] 243)=W2:=⟨_,rfl⟩;have G2:ag (Gw w W2):=by rw [<-pH];exact ((Gw.refl w).alloc _ _).alloc _ _
 have b0:W2.heap[N]?=some (.cells #[By 0,AI 0,.slice none 0 0] 243 (0,0)):=by
  rw [<-pH,<-hN];exact (heap_alloc_old _ _ (by simp)).trans (heap_alloc_new w _)
 have b1:W2.heap[N+1]?=some (.cells #[By xk,AI (xi:Int),.slice (some ⟨xb,xo,none⟩) xn xc] 243 (0,0)):=by
  rw [<-pH,<-hN];have:=heap_alloc_new (w.alloc (.cells #[By 0,AI 0,.slice none 0 0] 243)) (.cells #[By xk,AI (xi:Int),.slice (some ⟨xb,xo,none⟩) xn xc] 243);simpa using this
 have B0:ag _:=b0;have B1:ag _:=b1;rw [pH,hN];have R2:=tT R0.o G2.o;have jw:=(G2.o.below.block _ bu).trans HB.o;have n1:N+1<W2.heap.size:=aC b1;obtain ⟨W3,W4,E3,E4,q1,q2,Po,g4⟩:=abe R2 LN.o h1 MN.o gJ jw YV.o;have At:ag _:=Po;have G4:ag (Gx (fun q=>q=hb\/q=g) w W4):=(G2.o.gx _).trans g4 (fun q hq=>.inl hq)
 have Au:ag (N+1<W4.heap.size/\W4.heap[N]?=some (.cells #[By 0,AI 0,.slice none 0 0] 243 (0,0))/\W4.heap[N+1]?=some (.cells #[By xk,AI (xi:Int),.slice (some ⟨xb,xo,none⟩) xn xc] 243 (0,0))) :=
  ⟨Nat.lt_of_lt_of_le n1 g4.size,(g4.block _ (by omega) (by omega)).trans b0,(g4.block _ n1 (by omega)).trans b1⟩
 have c2:W2.cell? ⟨hb,1,none⟩=some (.slice (some ⟨g,0,none⟩) n cap):=aj jw rfl;have cO:=(eJ R2 LN.o).2.2.2;have fz:=(eJ R2 LN.o).1;obtain ⟨f0,f1,f2⟩:=cO m mn;obtain ⟨d0,d1,d2⟩:=cO 0 (by omega)
 rw [XV.o] at d0 d1 d2;rw [YV.o] at f0 f1 f2;simp only [Nat.zero_mul,Nat.zero_add,aJ.v,XN.o] at d0 d1 d2;simp only [jQ,Nat.zero_add,aJ.v,YN.o] at f2 E3;have Pj:=fz 0;have Pk:=fz 1;have Pm:=fz 2;have gN:ag (g<N/\hb<N/\w.heap.size<=N):=⟨by omega,by omega,by omega⟩
 clear pH hN cO fz R2 jw b0 b1 g4 Po e0 e1 e2 Pn;go_wp2_with fail;go_big_region;go_wp2_with fail;refine (SK.o (lD H) W4.drew (by rw [Ez,LN.o];exact MN.o.symm) ⟨At.o.blk,At.o.row,At.o.ne⟩ (HH.o.cut (by rw [LN.o];exact h1))).mono ?_
 rintro ex u6 ⟨rfl,⟨H',p1,p2,p3⟩,g6⟩;have PF:ag ((gt H 0::H').Perm H/\bP H'/\H'.length=n-1):=⟨((List.Perm.cons _ p1).trans (aaX H (by rw [LN.o];exact h1)).symm),p2,by have:=p1.length_eq;rw [Ez,LN.o] at this;exact this⟩
 have wL:Gx (fun q=>q=g) W4 u6:=⟨g6.os,g6.tape,g6.output,g6.size,g6.block⟩
 have pf:hb<W4.heap.size:=Nat.lt_of_lt_of_le bu G4.o.size;have m1:u6.heap[N+1]?=some (.cells #[By xk,AI (xi:Int),.slice (some ⟨xb,xo,none⟩) xn xc] 243 (0,0)):=(wL.block _ Au.o.1 (by have:=gN.o;omega)).trans Au.o.2.2
 have m0:u6.heap[N]?=some (.cells #[By 0,AI 0,.slice none 0 0] 243 (0,0)):=(wL.block _ (by have:=Au.o.1;omega) (by have:=gN.o;omega)).trans Au.o.2.1
 have mb:u6.heap[hb]?=some (.cells #[kf,.slice (some ⟨g,0,none⟩) m cap,pv] 240 (0,0)):=(wL.block _ pf Fq).trans At.o.blk;have k0:=aj (o:=0) m1 rfl;have k1:=aj (o:=1) m1 rfl;have k2:=aj (o:=2) m1 rfl;have j0:=aj (o:=0) m0 rfl;have j1:=aj (o:=1) m0 rfl;have j2:=aj (o:=2) m0 rfl;have jf:=fun o=>bT (o:=o) m0
 have jf0:=jf 0;have jf1:=jf 1;have jf2:=jf 2;have aL:ag (∀ W9,((u6.setCell ⟨N,0,none⟩ (By xk)).setCell ⟨N,1,none⟩ (AI (xi:Int))).setCell ⟨N,2,none⟩ (.slice (some ⟨xb,xo,none⟩) xn xc)=W9->(∃ H',(gt H 0::H').Perm H/\bP H'/\H'.length=n-1/\dZ 240 243 W9 hb base kf (.slice (some ⟨g,0,none⟩) (n-1) cap) pv H')/\Gx (fun q=>q=hb\/q=g) w W9):=fun W9 e9=>by
  have nw:w.heap.size<=N:=gN.o.2.2;have kp:∀ q,q≠N->W9.heap[q]?=u6.heap[q]?:=fun q hq=>by
   rw [<-e9,Go.Deep.blk_setCell_other _ _ _ _ hq,Go.Deep.blk_setCell_other _ _ _ _ hq,Go.Deep.blk_setCell_other _ _ _ _ hq]
  refine ⟨⟨H',PF.o.1,PF.o.2.1,PF.o.2.2,⟨?_,?_,fun q hq=>by cases hq;exact gJ⟩⟩,?_⟩
  ·rw [<-MN.o];exact (kp hb (by have:=gN.o;omega)).trans mb
  ·rw [<-MN.o];exact kG p3 fun q hq=>kp q (by cases hq;show g≠N;have:=gN.o;omega)
  ·rw [<-e9]
   exact ((((G4.o.trans wL (fun q hq=>.inl (.inr hq))).set (.inr nw) _ _).set (.inr nw) _ _).set (.inr nw) _ _)
 obtain ⟨W9,e9⟩:∃ W9,((u6.setCell ⟨N,0,none⟩ (By xk)).setCell ⟨N,1,none⟩ (AI (xi:Int))).setCell ⟨N,2,none⟩ (.slice (some ⟨xb,xo,none⟩) xn xc)=W9:=⟨_,rfl⟩;have FF:ag _:=aL.o W9 e9;have b9:W9.heap[N]?=some (.cells #[By xk,AI (xi:Int),.slice (some ⟨xb,xo,none⟩) xn xc] 243 (0,0)):=by
  rw [<-e9];have:=lE (o:=2) (lE (o:=1) (lE (o:=0) m0 (By xk)) (AI (xi:Int))) (.slice (some ⟨xb,xo,none⟩) xn xc);simpa using this
 have y0:=aj (o:=0) b9 rfl;have y1:=aj (o:=1) b9 rfl;have y2:=aj (o:=2) b9 rfl;clear aL m0 m1 mb p1 p2 p3 g6 wL jf b9 SK;go_wp2_with fail;refine bodyPost_ret (v:=.agg #[By xk,AI (xi:Int),.slice (some ⟨xb,xo,none⟩) xn xc]) (by simp [results,results158,go_sem,y0,y1,y2]) rfl ⟨rfl,FF.o⟩
theorem Pp:(prog.info? 243).map (fun i=>(i.zero,i.size,i.bytes))=some (some (.agg #[By 0,AI 0,.slice none 0 0]),3,40):=by kernel_rfl
theorem Pq (hb n base K i:Nat) (hv pv:Value) (H:List (Hd ah)) (s:aJ ah) (key:ah->Int) (FK:Ao gL key ah.ok K) (hn:H.length=n) (fY:n<=3000000) (hi:i<=4000000) (w:World) (hp:dZ 240 243 w hb base (.func (.func K) #[] #[]) hv pv H) (rv:base<=hb+1) (hH:bP H) (sl:s.l.length<=4000000) (ao:Option Addr) (sc:Nat) (hs:0<s.l.length->ao=some ⟨s.b,s.off,none⟩/\sc=s.c/\s.l.length<=s.c/\s.b<w.heap.size) (El:gM w s) (uh:∀ x∈s.l,ah.ok x) :
  Calls prog 157 #[BY hb,AI (i:Int),.slice ao s.l.length sc] w fun e w'=>e=.returned (.tuple #[])/\(∃ ba H',H'.Perm (H++dS key i s)/\bP H'/\dZ 240 243 w' hb base (.func (.func K) #[] #[]) ba pv H'/\(∀ q,ba.ownBlock=some q->hv.ownBlock=some q\/w.heap.size<=q))/\Gx (fun q=>q=hb\/hv.ownBlock=some q) w w':=by
 obtain ⟨sb,so,scc,l⟩:=s;cases l with
 | nil =>
  have HP:ag _:=hp;have HH:ag (bP H):=hH;clear hp hH FK El uh hs;dsimp only [List.length_nil];go_enter func157,ntmps157;go_wp2_with fail;refine bodyPost_ret (results_none rfl _ _ _) rfl ?_;exact ⟨rfl,⟨hv,H,by simp [dS],HH.o,HP.o,fun q hq=>.inl hq⟩,Gx.refl _ _⟩
 | cons x l =>
  obtain ⟨Av,Pr,cL,Ps⟩:=hs (by simp)
  dsimp only at Av Pr cL Ps sl El uh ⊢;subst Av Pr;clear hs;obtain ⟨m,hm⟩:∃ m,(x::l).length=m:=⟨_,rfl⟩;rw [hm];have m0:0<m:=by rw [<-hm];simp
  have ms:m<=4000000:=by rw [<-hm];exact sl
  have OK:ag _:=uh x (List.mem_cons_self ..);have Pt:ag _:=El;obtain ⟨hh,hr,ne⟩:=hp;have bu:hb<w.heap.size:=aC hh;have HB:ag _:=hh;have R0:ag _:=hr;have NE:ag _:=ne;have LN:ag _:=hn;have HH:ag (bP H):=hH;have XH:ag ((⟨key x,i,⟨sb,so,sc,x::l⟩⟩:Hd ah)=⟨key x,i,⟨sb,so,sc,x::l⟩⟩):=rfl;have HD:ag (dS key i (⟨sb,so,sc,x::l⟩:aJ ah)=[⟨key x,i,⟨sb,so,sc,x::l⟩⟩]):=rfl;obtain ⟨hx,HX⟩:∃ h:Hd ah,ag (h=⟨key x,i,⟨sb,so,sc,x::l⟩⟩):=⟨_,rfl⟩;obtain ⟨ii,aQ,hz,cU,aR⟩:=info_parts Pp;obtain ⟨kx,Pu⟩:∃ k,key x=k:=⟨_,rfl⟩;have KX:ag _:=Pu;have NW:ag (∀ W:World,∀ j u,(cD hx)[j]?=some u->(W.alloc (.cells #[By kx,AI (i:Int),.slice (some ⟨sb,so,none⟩) m sc] 243)).cell? ((⟨W.heap.size,0,none⟩:Addr).add j)=some u):=fun W=>by
   have:=OG 243 W hx
   rw [HX.o] at this ⊢;rw [<-KX.o,<-hm];exact this
  have KC:ag (∀ W:World,Calls prog K #[gL x] W fun e w'=>e=.returned (By kx)/\Gw W w'):=fun W=>by
   have:=FK.tells W x OK.o
   rw [KX.o] at this;exact this
  have ui:=FK.enter;have RS:ag (∀ (m:Nat) (g cap:Nat) (H:List (Hd ah)) (W:World),H.length=m+1->m+1<=4000000->dZ 240 243 W hb base (.func (.func K) #[] #[]) (.slice (some ⟨g,0,none⟩) (m+1) cap) pv H->lC H m->Calls prog 179 #[BY hb,AI (m:Int)] W fun e w'=>e=.returned (.tuple #[])/\(∃ H',H'.Perm H/\bP H'/\HR 243 w' base (.slice (some ⟨g,0,none⟩) (m+1) cap) H')/\Gx (fun q=>q=g) W w'):=fun m g cap H W h1 h2 h3 h4=>abC hb m (m+1) g cap base _ pv H h1 h2 (by omega) W h3 h4
  have c0:w.cell? ⟨hb,0,none⟩=some (.func (.func K) #[] #[]):=aj hh rfl;have c1:w.cell? ⟨hb,1,none⟩=some hv:=aj hh rfl;have mP:ag (∀ (W:World) (v':Value) (w7:World),Gw w W->w7.ownsRow base 243 3 v' (n+1) (H.flatMap cD++cD hx)->(W.alloc (.cells #[By kx,AI (i:Int),.slice (some ⟨sb,so,none⟩) m sc] 243)).grownBy w7 hv.ownBlock->(v'.ownBlock=hv.ownBlock\/v'.ownBlock=some (W.heap.size+1)) ->
    (w7.heap[hb]?=some (.cells #[.func (.func K) #[] #[],hv,pv] 240 (0,0))/\hb<w7.heap.size)/\dZ 240 243 (w7.setCell ⟨hb,1,none⟩ v') hb base (.func (.func K) #[] #[]) v' pv (H++[hx])/\Gx (fun q=>q=hb\/hv.ownBlock=some q) w (w7.setCell ⟨hb,1,none⟩ v')/\(∀ q,v'.ownBlock=some q->hv.ownBlock=some q\/w.heap.size<=q)):=fun W v' w7 gW r1 r2 r4=>by
   have b7:w7.heap[hb]?=some (.cells #[.func (.func K) #[] #[],hv,pv] 240 (0,0)):=(r2.block hb (by have:=gW.size;simp;omega) (fun e=>NE.o hb e.symm rfl)).trans ((heap_alloc_old _ _ (Nat.lt_of_lt_of_le bu gW.size)).trans ((gW.below.block hb bu).trans HB.o))
   have nv:∀ q,v'.ownBlock=some q->hv.ownBlock=some q\/w.heap.size<=q:=fun q hq=>by
    rcases r4 with e | e
    ·rw [e] at hq;exact .inl hq
    ·rw [e] at hq;cases hq;have:=gW.size;exact .inr (by omega)
   have ne':∀ q,v'.ownBlock=some q->q≠hb:=fun q hq=>by
    rcases nv q hq with e | e
    ·exact NE.o q e
    ·omega
   refine ⟨⟨b7,aC b7⟩,⟨lE b7 _,?_,ne'⟩,?_,nv⟩
   ·refine kG (OC (by rw [LN.o];exact r1)) fun q hq=>Go.Deep.blk_setCell_other _ _ _ _ (ne' q hq)
   ·exact (((gW.alloc _ _).gx _).grown r2 (fun q hq=>.inl (.inr hq))).set (.inl (Or.inl rfl)) _ _
  have OW:ag (∀ W:World,Gw w W->∀ o:Obj,(W.alloc o).ownsRow base 243 3 hv n (H.flatMap cD)):=fun W gW o=>by
   have:=tT R0.o gW
   unfold HR at this;rw [LN.o] at this;exact this.alloc _
  have RI:ag (lC (H++[hx]) n):=by
   have:=HH.o.app hx
   rw [LN.o] at this;exact this
  have aL:ag (∀ (b8 cap8:Nat) (W8 u9:World) (H':List (Hd ah)),dZ 240 243 W8 hb base (.func (.func K) #[] #[]) (.slice (some ⟨b8,0,none⟩) (n+1) cap8) pv (H++[hx])->Gx (fun q=>q=hb\/hv.ownBlock=some q) w W8->(∀ q,(Value.slice (some ⟨b8,0,none⟩) (n+1) cap8).ownBlock=some q->hv.ownBlock=some q\/w.heap.size<=q)->H'.Perm (H++[hx])->bP H'->HR 243 u9 base (.slice (some ⟨b8,0,none⟩) (n+1) cap8) H'->Gx (fun q=>q=b8) W8 u9 ->
    (∃ ba H',H'.Perm (H++[hx])/\bP H'/\dZ 240 243 u9 hb base (.func (.func K) #[] #[]) ba pv H'/\(∀ q,ba.ownBlock=some q->hv.ownBlock=some q\/w.heap.size<=q))/\Gx (fun q=>q=hb\/hv.ownBlock=some q) w u9):=fun b8 cap8 W8 u9 H' h1 h2 h3 h4 h5 h6 h7=>by
   have rF:=h1.ne b8 rfl;refine ⟨⟨_,H',h4,h5,⟨(h7.block hb (aC h1.blk) (fun e=>rF e.symm)).trans h1.blk,h6,h1.ne⟩,h3⟩,h2.trans h7 (fun q hq=>?_)⟩
   have rB:q=b8:=hq;subst rB;rcases h3 q rfl with e | e
   ·exact .inl (.inr e)
   ·exact .inr e
  rw [show dS key i (⟨sb,so,sc,x::l⟩:aJ ah)=[hx] by rw [HX.o];rfl]
  obtain ⟨xk,xv,xg⟩:=x;simp only [gL] at KC;obtain ⟨d0,d1,d2⟩:w.cell? ⟨sb,so,none⟩=some (By xk)/\w.cell? ⟨sb,so+1,none⟩=some (By xv)/\w.cell? ⟨sb,so+2,none⟩=some (.bool xg):=by
   have:=Pt.o 0 _ rfl
   simpa using this
  have HL:ag ((H++[hx]).length=n+1):=by show _=_;rw [List.length_append,LN.o];rfl
  clear hh hr ne hn hH El uh sl Pu Pt R0 NE;go_enter func157,ntmps157;have t0:((m:Int) == 0)=false:=by simp;omega
  have nl1:IntKind.i64.wrap (((n+1:Nat):Int)-1)=(n:Int):=by rw [IntKind.wrap_i64];omega
  have nl2:IntKind.i64.wrap ((n:Int)+1-1)=(n:Int):=by rw [IntKind.wrap_i64];omega
  clear hm;go_wp2_with fail;go_region_law (first
   | (go_simp;refine (KC.o _).mono ?_;rintro e w4 ⟨rfl,g4⟩;have G4:ag (Gw w w4):=((Gw.refl w).drew.trans g4);have k4:w4.cell? ⟨hb,1,none⟩=some hv:=(g4.cell _ _ bu).trans c1;have l4:hb<w4.heap.size:=Nat.lt_of_lt_of_le bu g4.size;clear g4)
   | (refine Fi _ rfl (.tmp 13) (.tmp 25) 238 rfl base 243 ii (.agg #[By 0,AI 0,.slice none 0 0]) 3 40 underlying238 aQ hz cU aR rfl (by decide) hv n (H.flatMap cD) (by simp [Act.eval]) (OW.o w4 G4.o _) ⟨w4.heap.size,0,none⟩ 1 1 (cD hx) (by simp [Act.eval]) rfl (NW.o w4) (Oy hx) (by simp only [maxLen];omega) (by omega) (Nat.le_trans (show base<=w4.heap.size by omega) ((Gw.refl w4).alloc _ _).size) ?_;intro v' w7 r1 r2 r3 r4;obtain ⟨b8,cap8,ev,_,_,_⟩:=dh r1 (by simpa using r3);obtain ⟨⟨B7,l7⟩,P7,G7,N7⟩:=mP.o w4 v' w7 G4.o r1 r2 (by simpa using r4);have k7:=aj (o:=1) B7 rfl;have f7:=bT (o:=1) B7;have P8:ag _:=P7;have G8:ag _:=G7;have N8:ag _:=N7;clear B7 P7 G7 N7 r1 r2 r3 r4;subst ev))
  all_goals go_wp2_with fail
  all_goals refine (RS.o n b8 cap8 (H++[hx]) _ HL.o (by omega) P8.o RI.o).mono ?_
  all_goals rintro ex u9 ⟨rfl,⟨H',p1,p2,p3⟩,g9⟩
  all_goals have FF:ag _:=aL.o b8 cap8 _ u9 H' P8.o G8.o N8.o p1 p2 p3 g9
  all_goals clear p1 p2 p3 g9
  all_goals go_wp2_with fail
  all_goals go_end0
  all_goals exact ⟨rfl,FF.o⟩
theorem abF (hb K:Nat) (hv pv:Value) (H P:List (Hd ah)) (key:ah->Int) (FK:Ao gL key ah.ok K) (fY:H.length<=3000000) (hp2:P.length<=3000000) (w:World) (eB:jR 240 243 w hb (.func (.func K) #[] #[]) hv pv H P) (hH:bP H)
  (me:∀ h∈H,(∃ x t,h.s.l=x::t/\h.k=key x)/\h.s.b<hb/\h.s.l.length<=h.s.c/\h.s.l.length<=4000000/\h.i<=4000000/\gM w h.s/\∀ x∈h.s.l,ah.ok x) :
  Calls prog 138 #[BY hb] w fun e w'=>wH 240 243 w hb K 3 hv pv H key gL (.agg #[By 0,By 0,.bool false]) e w':=by
 by_cases h0:H=[]
 ·subst h0
  have bu:hb<w.heap.size:=aC eB.hp.blk;have c1:w.cell? ⟨hb,1,none⟩=some hv:=aj eB.hp.blk rfl;rcases OJ eB.hp.row with ⟨e,_⟩ | ⟨g,cap,e,wO⟩
  all_goals
   subst e;clear eB hH me FK;go_enter func138,ntmps138;go_wp2_with fail;refine bodyPost_ret (v:=.tuple #[.agg #[By 0,By 0,.bool false],.bool false]) (by simp [results,results138,go_sem]) rfl ?_
   exact ⟨fun _=>⟨rfl,by first | exact ((Gw.refl w).alloc _ _).alloc _ _ | exact (((Gw.refl w).alloc _ _).alloc _ _).setCell (by simp) _⟩,fun h=>absurd rfl h⟩
 ·have nG:0<H.length:=List.length_pos_iff.2 h0
  have gm:gt H 0∈H:=by
   have:gt H 0=H[0]:=by simp [gt,List.getD,nG]
   rw [this];exact List.getElem_mem _
  have ME:ag _:=me;obtain ⟨⟨x,t,qF,Aw⟩,Pv,xcl,_,_,xel,xok⟩:=me (gt H 0) gm;obtain ⟨g,cap,Pw,wI,gb,gl⟩:=Oz eB.hp.row nG;obtain ⟨n,hn⟩:∃ n,H.length=n:=⟨_,rfl⟩;have LN:ag _:=hn;rw [hn] at Pw wI nG fY;subst Pw;have ST:ag _:=eB;have HH:ag _:=hH;have bu:hb<w.heap.size:=aC eB.hp.blk;have c1:w.cell? ⟨hb,1,none⟩=some (.slice (some ⟨g,0,none⟩) n cap):=aj eB.hp.blk rfl;have c2:w.cell? ⟨hb,2,none⟩=some pv:=aj eB.hp.blk rfl;have fr2:w.frozen? ⟨hb,2,none⟩=false:=bT eB.hp.blk;obtain ⟨y,hy⟩:∃ y,gt H 0=y:=⟨_,rfl⟩;have YV:ag _:=hy;obtain ⟨e0,e1,e2⟩:=(eJ eB.hp.row hn).2.2.2 0 nG;rw [hy] at e0 e1 e2 qF Aw;obtain ⟨yk,yi,⟨yb,yo,yc,yl⟩⟩:=y;dsimp only at qF Aw;obtain ⟨yn,fZ⟩:∃ m,yl.length=m:=⟨_,rfl⟩;have YN:ag _:=fZ;simp only [Nat.zero_mul,Nat.zero_add,aJ.v,fZ] at e0 e1 e2;have YL:ag _:=qF;have YK:ag _:=Aw;have tn:((n:Int) == 0)=false:=by simp;omega
  obtain ⟨po,pc,SL,R0,OB⟩:∃ (po:Option Addr) (pc:Nat),(∀ W:World,(Instr.slice 238 pv none (some (AI 0)) none).run prog W=.ok (.slice po 0 pc) W)/\HR 243 w (hb+1) (.slice po 0 pc) ([]:List (Hd ah))/\(Value.slice po 0 pc).ownBlock=pv.ownBlock:=by
   rcases OJ eB.pr with ⟨e,_⟩ | ⟨gp,cp,e,dc⟩
   ·subst e
    exact ⟨none,0,fun W=>by kernel_rfl,EZ _ _ _,rfl⟩
   ·have pr:=eB.pr
    subst e;refine ⟨some ⟨gp,0,none⟩,cp,fun W=>?_,OD pr rfl 0 (Nat.zero_le _),rfl⟩
    have c0:(0:Int)<=(cp:Int):=by omega
    by_cases z:cp=0
    ·subst z;simp [go_sem,Instr.slice]
    ·simp [go_sem,Instr.slice]
  obtain ⟨N5,Px⟩:∃ N,N=w.heap.size+1:=⟨_,rfl⟩;obtain ⟨W5,E5⟩:∃ W5,(w.alloc (.cells #[By 0,By 0,.bool false] 75)).alloc (.cells #[By yk,AI (yi:Int),.slice (some ⟨yb,yo,none⟩) yn yc] 243)=W5:=⟨_,rfl⟩;have G5:Gw w W5:=by rw [<-E5];exact ((Gw.refl w).alloc _ _).alloc _ _
  have B5:W5.heap[N5]?=some (.cells #[By yk,AI (yi:Int),.slice (some ⟨yb,yo,none⟩) yn yc] 243 (0,0)):=by
   rw [<-E5,Px]
   first
    | exact heap_alloc_new _ _
    | (have:=heap_alloc_new (w.alloc (.cells #[By 0,By 0,.bool false] 75)) (.cells #[By yk,AI (yi:Int),.slice (some ⟨yb,yo,none⟩) yn yc] 243);simpa using this)
  have B2:W5.heap[w.heap.size]?=some (.cells #[By 0,By 0,.bool false] 75 (0,0)):=by
   rw [<-E5];exact (heap_alloc_old _ _ (by simp)).trans (heap_alloc_new w _)
  have n5:N5<W5.heap.size:=aC B5;have fI:W5.heap[hb]?=some (.cells #[.func (.func K) #[] #[],.slice (some ⟨g,0,none⟩) n cap,pv] 240 (0,0)):=(G5.below.block _ bu).trans ST.o.hp.blk;obtain ⟨W6,E6⟩:∃ W6,W5.setCell ⟨hb,2,none⟩ (.slice po 0 pc)=W6:=⟨_,rfl⟩;have A0:ag (hJ 240 243 w W6 hb g cap (.func (.func K) #[] #[]) pv H yk n (.slice po 0 pc) H [] W6):=by
   have rF:∀ q,q≠hb->W6.heap[q]?=W5.heap[q]?:=fun q hq=>by rw [<-E6];exact Go.Deep.blk_setCell_other _ _ _ _ hq
   have s6:W6.heap.size=W5.heap.size:=by rw [<-E6];simp [World.setCell]
   have gJ:g≠hb:=ST.o.hp.ne g rfl;have Py:=(mM ST.o.hp.row g rfl).2;have plt:∀ q,pv.ownBlock=some q->q<w.heap.size:=fun q hq=>(mM ST.o.pr q hq).2
   have pne:=ST.o.pne;refine ⟨⟨⟨?_,?_,ST.o.hp.ne⟩,?_,fun q hq rB=>ST.o.ap q hq (by rw [<-OB];exact rB)⟩,LN.o,by simp,(fun p hp=>by cases hp),HH.o,fun q hq=>.inl (by rw [<-OB];exact hq),fun _ _ _=>rfl,?_,⟨by rw [s6];exact G5.size,Nat.le_refl _⟩,⟨Py,bu,gJ,plt⟩⟩
   ·rw [<-E6];exact lE fI _
   ·exact kG ST.o.hp.row fun q hq=>by cases hq;exact (rF g gJ).trans (G5.below.block g Py)
   ·exact kG R0 fun q hq=>by rw [OB] at hq;exact (rF q (pne q hq)).trans (G5.below.block q (plt q hq))
   ·rw [<-E6];exact (G5.gx _).set (.inl (Or.inl rfl)) _ _
  have BX:ag (∀ W:World,(∀ q,w.heap.size<=q->q<W6.heap.size->W.heap[q]?=W6.heap[q]?)->W.heap[N5]?=some (.cells #[By yk,AI (yi:Int),.slice (some ⟨yb,yo,none⟩) yn yc] 243 (0,0))/\W.heap[w.heap.size]?=some (.cells #[By 0,By 0,.bool false] 75 (0,0))):=fun W hW=>by
   have s6:W6.heap.size=W5.heap.size:=by rw [<-E6];simp [World.setCell]
   have rF:∀ q,q≠hb->W6.heap[q]?=W5.heap[q]?:=fun q hq=>by rw [<-E6];exact Go.Deep.blk_setCell_other _ _ _ _ hq
   exact ⟨(hW N5 (by omega) (by omega)).trans ((rF N5 (by omega)).trans B5),(hW _ (Nat.le_refl _) (by omega)).trans ((rF _ (by omega)).trans B2)⟩
  have W6L:ag (w.heap.size<W6.heap.size):=by
   have s6:W6.heap.size=W5.heap.size:=by rw [<-E6];simp [World.setCell]
   show _<_;omega
  have k1:W5.cell? ⟨hb,1,none⟩=some (.slice (some ⟨g,0,none⟩) n cap):=aj fI rfl;have k2:W5.cell? ⟨hb,2,none⟩=some pv:=aj fI rfl;have k3:W5.frozen? ⟨hb,2,none⟩=false:=bT fI;have l5:hb<W5.heap.size:=aC fI;have Ft:ag (∀ n1 bN H1 P1 wr,hJ 240 243 w W6 hb g cap (.func (.func K) #[] #[]) pv H yk n1 bN H1 P1 wr->(n1=0\/(gt H1 0).k≠yk)->0<P1.length/\∀ x∈H1,x.k≠yk):=fun n1 bN H1 P1 wr h ex=>h.exit HH.o (by rw [LN.o];exact nG) (by rw [YV.o]) ex
  have Pz:ag (∀ (n1:Nat) (bN:Value) (H1 P1:List (Hd ah)) (wr:World),hJ 240 243 w W6 hb g cap (.func (.func K) #[] #[]) pv H yk n1 bN H1 P1 wr->1<=n1->n1<=3000000->Calls prog 158 #[BY hb] wr fun e w'=>e=.returned (gt H1 0).v/\(∃ H',(gt H1 0::H').Perm H1/\bP H'/\H'.length=n1-1/\dZ 240 243 w' hb (hb+1) (.func (.func K) #[] #[]) (.slice (some ⟨g,0,none⟩) (n1-1) cap) bN H')/\Gx (fun q=>q=hb\/q=g) wr w'):=fun n1 bN H1 P1 wr h h1 h2=>abE hb n1 g cap (hb+1) _ bN H1 h.ln h1 (by omega) wr h.st.hp h.ho
  have Fu:ag (∀ n1 bN H1 P1 wr,hJ 240 243 w W6 hb g cap (.func (.func K) #[] #[]) pv H yk n1 bN H1 P1 wr->P1.length+n1=n):=fun n1 bN H1 P1 wr h=>by
   have:=h.pm.length_eq
   rw [List.length_append,LN.o,h.ln] at this;exact this
  obtain ⟨ii,aQ,hz,cU,aR⟩:=info_parts Pp;subst Px;clear eB hH me h0 hn hy fZ qF Aw gm R0 OB B5 fI G5 n5;go_enter func138,ntmps138;go_upto_block 0 with fail;clear E5 E6 k1 k2 k3 l5 SL c1 c2 fr2 e0 e1 e2 tn;go_cut [] from 29 to 57 (fun wc=>∃ (n1:Nat) (bN:Value) (H1 P1:List (Hd ah)),ag (hJ 240 243 w W6 hb g cap (.func (.func K) #[] #[]) pv H yk n1 bN H1 P1 wc)/\ag (0<P1.length/\∀ x∈H1,x.k≠yk))
  case first=>as_aux_lemma =>
   go_wp2_with fail;go_loopg [] n (fun gg wr=>∃ (n1:Nat) (bN:Value) (H1 P1:List (Hd ah)),n1<=gg/\n1<=n/\ag (hJ 240 243 w W6 hb g cap (.func (.func K) #[] #[]) pv H yk n1 bN H1 P1 wr))
   case atStart=>exact ⟨n,.slice po 0 pc,H,[],Nat.le_refl _,Nat.le_refl _,A0⟩
   case round =>
    obtain ⟨n1,bN,H1,P1,ng,nn,AA⟩:=hrel;obtain ⟨wS,bj⟩:∃ wx,wx=wr:=⟨_,rfl⟩;subst bj;have c1:wS.cell? ⟨hb,1,none⟩=some (.slice (some ⟨g,0,none⟩) n1 cap):=aj AA.o.st.hp.blk rfl;have c2:wS.cell? ⟨hb,2,none⟩=some bN:=aj AA.o.st.hp.blk rfl;have f0:=aj (o:=0) ((BX.o _ AA.o.bx).1) rfl;have af':n1<=cap:=(eJ AA.o.st.hp.row AA.o.ln).2.1;by_cases p0:0<n1
    ·have p0':decide ((0:Int)<(n1:Int))=true:=by simpa using p0
     obtain ⟨z,pn⟩:∃ z,gt H1 0=z:=⟨_,rfl⟩;have ZV:ag _:=pn;obtain ⟨d0,d1,d2⟩:=(eJ AA.o.st.hp.row AA.o.ln).2.2.2 0 p0;rw [pn] at d0 d1 d2;simp only [Nat.zero_mul,Nat.zero_add] at d0 d1 d2;have NW:=fun W=>OG 243 W z
     obtain ⟨zk,zi,⟨zb,zo,zc,zl⟩⟩:=z;obtain ⟨zn,pJ⟩:∃ m,zl.length=m:=⟨_,rfl⟩;have ZN:ag _:=pJ;dsimp only at d0;by_cases zy:zk=yk
     ·have zy':(zk == yk)=true:=by simpa using zy
      obtain ⟨m1,PG⟩:∃ m,m=n1-1:=⟨_,rfl⟩;have PO:ag (∀ k:Nat,Calls prog 158 #[BY hb] (wS.drewN k) fun e w'=>e=.returned (.agg #[By zk,AI (zi:Int),.slice (some ⟨zb,zo,none⟩) zn zc])/\(∃ H',(gt H1 0::H').Perm H1/\bP H'/\H'.length=m1/\dZ 240 243 w' hb (hb+1) (.func (.func K) #[] #[]) (.slice (some ⟨g,0,none⟩) m1 cap) bN H')/\Gx (fun q=>q=hb\/q=g) wS w'):=fun k=>by
       have:=Pz.o n1 bN H1 P1 (wS.drewN k) (AA.o.drewN k) (by omega) (by omega)
       rw [ZV.o,<-PG] at this;rw [ZV.o,<-ZN.o];exact this.mono fun e w' ⟨q1,q2,q3⟩=>⟨q1,q2,⟨q3.os,q3.tape,q3.output,q3.size,q3.block⟩⟩
      have mP:ag (∀ (H2:List (Hd ah)) (w4:World) (v':Value) (w7:World),(gt H1 0::H2).Perm H1->bP H2->H2.length=m1->dZ 240 243 w4 hb (hb+1) (.func (.func K) #[] #[]) (.slice (some ⟨g,0,none⟩) m1 cap) bN H2->Gx (fun q=>q=hb\/q=g) wS w4->w7.ownsRow (hb+1) 243 3 v' (P1.length+1) (P1.flatMap cD++cD ⟨zk,zi,⟨zb,zo,zc,zl⟩⟩)->(w4.alloc (.cells #[By zk,AI (zi:Int),.slice (some ⟨zb,zo,none⟩) zn zc] 243)).grownBy w7 bN.ownBlock->(v'.ownBlock=bN.ownBlock\/v'.ownBlock=some (w4.heap.size+1))->w7.heap[hb]?=some (.cells #[.func (.func K) #[] #[],.slice (some ⟨g,0,none⟩) m1 cap,bN] 240 (0,0))/\hJ 240 243 w W6 hb g cap (.func (.func K) #[] #[]) pv H yk m1 v' H2 (P1++[gt H1 0]) (w7.setCell ⟨hb,2,none⟩ v')):=fun H2 w4 v' w7 a1 a2 a3 a4 a5 a6 a7 a8=>AA.o.step _ (by rw [ZV.o];exact zy) a1 a2 a3 a4 a5 (by rw [ZV.o];exact a6) a7 a8
      have PR:ag (∀ (H2:List (Hd ah)) (w4:World),dZ 240 243 w4 hb (hb+1) (.func (.func K) #[] #[]) (.slice (some ⟨g,0,none⟩) m1 cap) bN H2->Gx (fun q=>q=hb\/q=g) wS w4->∀ o:Obj,(w4.alloc o).ownsRow (hb+1) 243 3 bN P1.length (P1.flatMap cD)):=fun H2 w4 m4 g4 o=>by
       have r:HR 243 w4 (hb+1) bN P1:=aba AA.o.st.pr g4 (fun q hq e=>by
        rcases e with e | e
        ·exact AA.o.st.pne q hq e
        ·exact AA.o.st.ap q (by rw [e];rfl) hq)
       exact World.ownsRow.alloc r _
      have NWH:ag (∀ W:World,∀ j u,(cD (⟨zk,zi,⟨zb,zo,zc,zl⟩⟩:Hd ah))[j]?=some u->(W.alloc (.cells #[By zk,AI (zi:Int),.slice (some ⟨zb,zo,none⟩) zn zc] 243)).cell? ((⟨W.heap.size,0,none⟩:Addr).add j)=some u):=fun W=>by
       have:=NW W
       simp only [pJ] at this;exact this
      have pl:=Fu.o _ _ _ _ _ AA.o;have plb:P1.length<=3000000:=by omega
      have ml:m1<n1:=by omega
      clear pl NW pn pJ d1 d2 zy PG;go_wp2_with fail;go_quiet (fail);go_wp2_with fail;go_region_law (first
       | (go_simp;refine (PO.o _).mono ?_;rintro e w4 ⟨rfl,⟨H2,q1,q2,q3,q4⟩,g4⟩;have Q1:ag _:=q1;have Q2:ag _:=q2;have Q3:ag _:=q3;have Q4:ag _:=q4;have PH:ag _:=g4;have k4:=aj (o:=2) q4.blk rfl;have l4:hb<w4.heap.size:=aC q4.blk;clear q1 q2 q3 q4 g4)
       | (refine Fi _ rfl (.tmp 51) (.tmp 54) 238 rfl (hb+1) 243 ii (.agg #[By 0,AI 0,.slice none 0 0]) 3 40 underlying238 aQ hz cU aR rfl (by decide) bN P1.length (P1.flatMap cD) (by simp [Act.eval]) (PR.o H2 w4 Q4.o PH.o _) ⟨w4.heap.size,0,none⟩ 1 1 (cD (⟨zk,zi,⟨zb,zo,zc,zl⟩⟩:Hd ah)) (by simp [Act.eval]) rfl (NWH.o w4) (Oy _) (by simp only [maxLen];omega) (by omega) (Nat.le_trans (show hb+1<=w4.heap.size by omega) ((Gw.refl w4).alloc _ _).size) ?_;intro v' w7 r1 r2 r3 r4;obtain ⟨b8,cap8,ev,_,_,_⟩:=dh r1 (by simpa using r3);obtain ⟨B7,A7⟩:=mP.o H2 w4 v' w7 Q1.o Q2.o Q3.o Q4.o PH.o r1 r2 (by simpa using r4);have k7:=aj (o:=2) B7 rfl;have f7:=bT (o:=2) B7;have l7:=aC B7;have A8:ag _:=A7;clear B7 A7 r1 r2 r3 r4;subst ev))
      all_goals go_wp2_with fail
      all_goals go_roundg m1
      all_goals first
       | (case measure=>omega)
       | (case rel=>exact ⟨m1,_,H2,P1++[gt H1 0],Nat.le_refl _,by omega,(show ag _ from A8.o)⟩)
     ·have zy':(zk == yk)=false:=by simpa using zy
      have EX:ag _:=Ft.o _ _ _ _ _ AA.o (.inr (by rw [ZV.o];exact zy))
      clear NW pn pJ d1 d2 zy;go_wp2_with fail;go_quiet (fail);go_wp2_with fail;go_meet
      case rel=>exact ⟨n1,bN,H1,P1,(show ag _ from by first | exact AA.o.drew | exact AA.o.drewN _),EX⟩
    ·have p0':decide ((0:Int)<(n1:Int))=false:=by simp;omega
     have EX:ag _:=Ft.o _ _ _ _ _ AA.o (.inl (by omega))
     go_wp2_with fail;go_quiet (fail)
     go_wp2_with fail;go_meet
     case rel=>exact ⟨n1,bN,H1,P1,(show ag _ from by first | exact AA.o.drew | exact AA.o.drewN _),EX⟩
  case rest=>as_aux_lemma =>
   obtain ⟨n1,bN,H1,P1,AA,EX⟩:=hcut;obtain ⟨wA,Fv⟩:∃ wx,wx=wc:=⟨_,rfl⟩;subst Fv;clear Ft Pz;have nle:=Fu.o _ _ _ _ _ AA.o;clear Fu A0;obtain ⟨gp,cp,epv,npc,_,_⟩:=Oz AA.o.st.pr EX.o.1;subst epv;obtain ⟨np,uj⟩:∃ m,P1.length=m:=⟨_,rfl⟩;have NP:ag _:=uj;have B0:ag (jU 240 243 w W6 hb g gp np cp 3 (.func (.func K) #[] #[]) (.slice (some ⟨g,0,none⟩) n cap) pv key H1 P1 0 (.slice (some ⟨g,0,none⟩) n1 cap) H1 wA):=by
    have:=AA.o.toB (sz:=3) (key:=key) (n:=n)
    rw [uj] at this;exact this
   have c2:wA.cell? ⟨hb,2,none⟩=some (.slice (some ⟨gp,0,none⟩) np cp):=by rw [<-uj];exact aj AA.o.st.hp.blk rfl
   rw [uj] at npc nle;have np0:0<np:=by have:=EX.o.1;rw [uj] at this;exact this
   have Fw:ag (∀ W,Gx (gK hb (.slice (some ⟨g,0,none⟩) n cap) pv) w W->∀ q,q<hb->W.heap[q]?=w.heap[q]?):=fun W gg q hq=>gg.block q (by omega) (fun e=>by have:=(ST.o.lt e).1;omega)
   have rG:ag (∀ (j:Nat) (ba:Value) (Hc:List (Hd ah)) (wr Wq:World) (ao:Option Addr) (sc pm:Nat),jU 240 243 w W6 hb g gp np cp 3 (.func (.func K) #[] #[]) (.slice (some ⟨g,0,none⟩) n cap) pv key H1 P1 j ba Hc wr->j<np->Gw wr Wq->(gt P1 j).s.l.length=pm+1->(0<pm->ao=some ⟨(gt P1 j).s.b,(gt P1 j).s.off+3,none⟩/\sc=(gt P1 j).s.c-1)->Calls prog 157 #[BY hb,AI ((gt P1 j).i:Int),.slice ao pm sc] Wq fun e w'=>e=.returned (.tuple #[])/\∃ lG H2,jU 240 243 w W6 hb g gp np cp 3 (.func (.func K) #[] #[]) (.slice (some ⟨g,0,none⟩) n cap) pv key H1 P1 (j+1) lG H2 w'):=fun j ba Hc wr Wq ao sc pm hB jl gq hl Av=>by
    have tN:j<P1.length:=by rw [NP.o];exact jl
    have Ax:gt P1 j∈H:=AA.o.pm.mem_iff.1 (List.mem_append.2 (.inl (by
     have:gt P1 j=P1[j]:=by simp [gt,List.getD,tN]
     rw [this];exact List.getElem_mem _)))
    obtain ⟨_,m1,m2,m3,m4,m5,m6⟩:=ME.o _ Ax;have e1:(adv 3 (gt P1 j).s).l.length=pm:=by show (gt P1 j).s.l.tail.length=pm;rw [List.length_tail,hl];rfl
    have kb:Wq.heap[(gt P1 j).s.b]?=w.heap[(gt P1 j).s.b]?:=(gq.below.block _ (by have:=hB.sz;omega)).trans (Fw.o wr hB.gx _ m1)
    have few:=hB.few;have h1l:H1.length=n1:=AA.o.ln;have:=Pq hb Hc.length (hb+1) K (gt P1 j).i ba _ Hc (adv 3 (gt P1 j).s) key FK rfl (by rw [NP.o] at few;omega) m4 Wq ⟨(gq.below.block _ (aC hB.st.hp.blk)).trans hB.st.hp.blk,tT hB.st.hp.row gq,hB.st.hp.ne⟩ (Nat.le_refl _) hB.ho (by rw [e1];omega) ao sc (fun h0=>by
     rw [e1] at h0;obtain ⟨z1,z2⟩:=Av h0;refine ⟨z1,z2,?_,?_⟩
     ·show (gt P1 j).s.l.tail.length<=(gt P1 j).s.c-1
      rw [List.length_tail];omega
     ·show (gt P1 j).s.b<_
      have:=gq.size;have:=hB.sz;omega) (m5.keep kb).adv (fun x hx=>m6 x (List.mem_of_mem_tail hx))
    rw [e1] at this;exact this.mono fun e w' ⟨q1,⟨lG,H2,q2,q3,q4,q5⟩,q6⟩=>⟨q1,lG,H2,hB.step tN gq q2 q3 q4 q5 q6⟩
   have PIN:ag (∀ p∈P1,p∈H):=fun p hp=>AA.o.pm.mem_iff.1 (List.mem_append.2 (.inl hp))
   have Fx:ag _:=AA.o.pm;have PPK:ag _:=AA.o.pk;clear uj AA;go_wp2_with fail;go_loopg [63] np (fun gg s63 wr=>∃ (j:Nat) (ba:Value) (Hc:List (Hd ah)),s63=AI (j:Int)/\j<=np/\np-j<=gg/\ag (jU 240 243 w W6 hb g gp np cp 3 (.func (.func K) #[] #[]) (.slice (some ⟨g,0,none⟩) n cap) pv key H1 P1 j ba Hc wr))
   case atStart=>exact ⟨0,_,H1,rfl,Nat.zero_le _,by omega,B0⟩
   case round=>as_aux_lemma =>
    clear B0 c2;obtain ⟨j,ba,Hc,rfl,jn,jg,NB⟩:=hrel;obtain ⟨wS,bj⟩:∃ wx,wx=wr:=⟨_,rfl⟩;subst bj;by_cases jl:j<np
    ·have tN:(j:Int)<(np:Int):=by omega
     obtain ⟨d0,d1,d2⟩:=(eJ NB.o.st.pr NP.o).2.2.2 j jl;have jl2:j<P1.length:=by rw [NP.o];exact jl
     have Ax:gt P1 j∈P1:=by
      have:gt P1 j=P1[j]:=by simp [gt,List.getD,jl2]
      rw [this];exact List.getElem_mem _
     obtain ⟨z,pn⟩:∃ z,gt P1 j=z:=⟨_,rfl⟩;have PU:=rG.o j ba Hc wS;have PI:=ME.o _ (PIN.o _ Ax);rw [pn] at d0 d1 d2 PU PI;obtain ⟨zk,zi,⟨zb,zo,zc,zl⟩⟩:=z;obtain ⟨⟨x',t',Fy,_⟩,_,PJ,PK,_,_,_⟩:=PI;dsimp only at Fy PJ PK;obtain ⟨zn,pJ⟩:∃ m,zl.length=m:=⟨_,rfl⟩;obtain ⟨pm,PM⟩:∃ m,m=zn-1:=⟨_,rfl⟩;have zn0:0<zn:=by rw [<-pJ,Fy];simp
     simp only [aJ.v,pJ] at d0 d1 d2 PJ PK;obtain ⟨ao,sc,SLP,PV⟩:∃ (ao:Option Addr) (sc:Nat),(∀ W:World,(Instr.slice 24 (.slice (some ⟨zb,zo,none⟩) zn zc) (some (AI 1)) none none).run prog W=.ok (.slice ao pm sc) W)/\(0<pm->ao=some ⟨zb,zo+3,none⟩/\sc=zc-1):=by
      by_cases z1:zc=1
      ·have e1:zn=1:=by omega
       have e2:pm=0:=by omega
       subst z1 e1 e2;exact ⟨some ⟨zb,zo,none⟩,0,fun W=>by simp [go_sem,Instr.slice],fun h=>by omega⟩
      ·exact ⟨some ⟨zb,zo+3,none⟩,zc-1,fun W=>by (have zz:¬ ((zn:Int)<1):=by omega);simp [go_sem,Instr.slice,z1,PM,zz],fun _=>⟨rfl,rfl⟩⟩
     have PX:ag (∀ Wq,Gw wS Wq->Calls prog 157 #[BY hb,AI (zi:Int),.slice ao pm sc] Wq fun e w'=>e=.returned (.tuple #[])/\∃ lG H2,jU 240 243 w W6 hb g gp np cp 3 (.func (.func K) #[] #[]) (.slice (some ⟨g,0,none⟩) n cap) pv key H1 P1 (j+1) lG H2 w'):=fun Wq gq=>PU Wq ao sc pm NB.o jl gq (by show zl.length=pm+1;omega) (fun h0=>PV h0)
     obtain ⟨Wq,EQ⟩:∃ Wq,wS.alloc (.cells #[By zk,AI (zi:Int),.slice (some ⟨zb,zo,none⟩) zn zc] 243)=Wq:=⟨_,rfl⟩;have GQ:ag (Gw wS Wq):=by rw [<-EQ];exact (Gw.refl wS).alloc _ _
     have BQ:Wq.heap[wS.heap.size]?=some (.cells #[By zk,AI (zi:Int),.slice (some ⟨zb,zo,none⟩) zn zc] 243 (0,0)):=by rw [<-EQ];exact heap_alloc_new _ _
     have q1:Wq.drew.cell? ⟨wS.heap.size,1,none⟩=some (AI (zi:Int)):=aj (W:=Wq) BQ rfl;have q2:Wq.drew.cell? ⟨wS.heap.size,2,none⟩=some (.slice (some ⟨zb,zo,none⟩) zn zc):=aj (W:=Wq) BQ rfl;clear PU rG PV PM pJ Fy pn BQ Ax;go_wp2_with fail;refine wp_region_still_tail 6 (by kernel_rfl) (by kernel_rfl) ?_
     change wpStill _ _ (World.drew Wq) (fun a'=>wpList _ _ _ _ a' (World.drew Wq)) _ _
     simp only [List.take_succ_cons,List.take_zero,List.drop_succ_cons,List.drop_zero]
     still_step
     still_step
     still_step
     still_step
     still_step
     still_step
     refine wpStill_nil ?_;go_wp2_with fail;refine (PX.o _ GQ.o.drew).mono ?_;rintro ex u5 ⟨rfl,lG,H2,PY⟩;have NB5:ag _:=PY;clear PY PX q1 q2 EQ;go_wp2_with fail;go_roundg (np-(j+1))
     case measure=>omega
     case rel=>exact ⟨j+1,lG,H2,by go_num,by omega,Nat.le_refl _,NB5⟩
    ·have ej:j=np:=by omega
     subst ej;have tN:¬ ((j:Int)<(j:Int)):=by omega
     clear rG;have b5:=(BX.o _ NB.o.bx).1;have k2:=aj (o:=2) b5 rfl;have PZ:0<yn:=by rw [<-YN.o,YL.o];simp
     have kb:wS.heap[yb]?=w.heap[yb]?:=Fw.o _ NB.o.gx _ (by rw [YV.o] at Pv;exact Pv)
     have xe:=xel.keep (w':=wS) (by rw [YV.o];exact kb)
     rw [YV.o] at xe;have P0:ag (Hc.Perm (H1++P1.flatMap (fun h=>dS key h.i (adv 3 h.s)))):=by
      have:=NB.o.pm
      rw [List.take_of_length_le (by rw [NP.o];exact Nat.le_refl _)] at this
      exact this
     have wP:ag (∀ W9,Gx (fun q=>q=w.heap.size) wS W9->wH 240 243 w hb K 3 (.slice (some ⟨g,0,none⟩) n cap) pv H key gL (.agg #[By 0,By 0,.bool false]) (.returned (.tuple #[gL x,.bool true])) W9):=fun W9 g9=>by
      obtain ⟨f1,f2,f3⟩:=NB.o.fin g9 W6L.o;refine ⟨fun e=>?_,fun _=>⟨x,t,ba,_,Hc,P1,H1,by rw [YV.o];exact YL.o,rfl,Fx.o,fun p hp=>by rw [YV.o];exact PPK.o p hp,fun p hp=>by rw [YV.o];exact EX.o.2 p hp,P0.o,NB.o.ho,f1,f2,f3⟩⟩
      rw [e] at Fx;have:=Fx.o.length_eq;rw [List.length_append,NP.o] at this;simp at this;omega
     obtain ⟨xk,xv,xg⟩:=x;obtain ⟨r0,r1,r2⟩:wS.cell? ⟨yb,yo,none⟩=some (By xk)/\wS.cell? ⟨yb,yo+1,none⟩=some (By xv)/\wS.cell? ⟨yb,yo+2,none⟩=some (.bool xg):=by
      have:=xe 0 _ (by show yl[0]?=_;rw [YL.o];rfl)
      simpa using this
     have b2:=(BX.o _ NB.o.bx).2;obtain ⟨W9,E9⟩:∃ W9,((wS.setCell ⟨w.heap.size,0,none⟩ (By xk)).setCell ⟨w.heap.size,1,none⟩ (By xv)).setCell ⟨w.heap.size,2,none⟩ (.bool xg)=W9:=⟨_,rfl⟩;have b9:W9.heap[w.heap.size]?=some (.cells #[By xk,By xv,.bool xg] 75 (0,0)):=by
      rw [<-E9];have:=lE (o:=2) (lE (o:=1) (lE (o:=0) b2 (By xk)) (By xv)) (.bool xg);simpa using this
     have PO9:ag _:=wP.o W9 (by rw [<-E9];exact (((Gx.refl (fun q=>q=w.heap.size) wS).set (.inl rfl) _ _).set (.inl rfl) _ _).set (.inl rfl) _ _)
     have j0:=aj (o:=0) b2 rfl;have j1:=aj (o:=1) b2 rfl;have j2:=aj (o:=2) b2 rfl;have jf0:=bT (o:=0) b2;have jf1:=bT (o:=1) b2;have jf2:=bT (o:=2) b2;have y0:=aj (o:=0) b9 rfl;have y1:=aj (o:=1) b9 rfl;have y2:=aj (o:=2) b9 rfl;have lw:w.heap.size<wS.heap.size:=aC b2;clear wP b2 b9;clear NB P0 xe b5 BX Fw;go_wp2_with fail;refine bodyPost_ret (v:=.tuple #[.agg #[By xk,By xv,.bool xg],.bool true]) (by simp [results,results138,go_sem,y0,y1,y2]) rfl PO9.o
theorem abG (K:Nat) (key:ah->Int) (FK:Ao gL key ah.ok K) (L:List (aJ ah)) (ao:Option Addr) (c:Nat) (hL:L.length<=3000000) (w:World) (hv:LV w ao L) (eH:∀ s∈L,pI ah.ok w.heap.size s) (jW:∀ s∈L,s.l≠[]->gM w s) :
  Calls prog 137 #[.func (.func K) #[] #[],.slice ao L.length c] w fun e w'=>e=.returned (BY (w.heap.size))/\(∃ hv H,Tl 240 243 (gM) ah.ok key L w.heap.size K [] L hv (.slice none 0 0) H [] w')/\Gw w w':=by
 obtain ⟨n,hn⟩:∃ n,L.length=n:=⟨_,rfl⟩;have LN:ag _:=hn;rw [hn] at hL ⊢;have P2:ag _:=hv;obtain ⟨hb,rH⟩:∃ hb,w.heap.size=hb:=⟨_,rfl⟩;have rI:ag _:=rH;obtain ⟨W1,E1⟩:∃ W1,w.alloc (.cells #[.func (.func K) #[] #[],.slice none 0 0,.slice none 0 0] 240)=W1:=⟨_,rfl⟩;have G1:ag (Gw w W1):=by rw [<-E1];exact (Gw.refl w).alloc _ _
 have B1:ag (W1.heap[hb]?=some (.cells #[.func (.func K) #[] #[],.slice none 0 0,.slice none 0 0] 240 (0,0))):=by rw [<-E1,<-rH];exact heap_alloc_new w _
 have rG:ag (∀ (i:Nat) (hi:i<n) (hv:Value) (H:List (Hd ah)) (W:World) (bo:Option Addr) (sc:Nat),H.Perm (ca key 0 (L.take i))->bP H->dZ 240 243 W hb (hb+1) (.func (.func K) #[] #[]) hv (.slice none 0 0) H->Gw w W->(0<(L[i]'(by rw [LN.o];exact hi)).l.length->bo=some ⟨(L[i]'(by rw [LN.o];exact hi)).b,(L[i]'(by rw [LN.o];exact hi)).off,none⟩/\sc=(L[i]'(by rw [LN.o];exact hi)).c)->Calls prog 157 #[BY hb,AI (i:Int),.slice bo (L[i]'(by rw [LN.o];exact hi)).l.length sc] W fun e w'=>e=.returned (.tuple #[])/\(∃ ba H',H'.Perm (ca key 0 (L.take (i+1)))/\bP H'/\dZ 240 243 w' hb (hb+1) (.func (.func K) #[] #[]) ba (.slice none 0 0) H')/\Gw w w'):=fun i hi hv H W bo sc h1 h2 h3 gW hbo=>by
  have gX:i<L.length:=by rw [LN.o];exact hi
  have sm:L[i]∈L:=List.getElem_mem gX;have few:H.length<=n:=by
   have e:=h1.length_eq;have:=EH (key:=key) (L.take i) 0;simp at this;omega
  have LO:=eH _ sm;have ne:0<L[i].l.length->L[i].l≠[]:=fun h0 e=>by rw [e] at h0;simp at h0
  have wQ:L[i].l.length<=4000000:=by
   rcases Nat.eq_zero_or_pos L[i].l.length with z | z
   ·omega
   ·exact (LO (ne z)).2.2.1
  have el:gM W L[i]:=by
   rcases Nat.eq_zero_or_pos L[i].l.length with z | z
   ·intro k y hy
    rw [List.length_eq_zero_iff.1 z] at hy;simp at hy
   ·exact (jW _ sm (ne z)).keep (gW.below.block _ (LO (ne z)).1)
  refine (Pq hb H.length (hb+1) K i hv _ H L[i] key FK rfl (by omega) (by omega) W h3 (Nat.le_refl _) h2 wQ bo sc (fun h0=>?_) el (fun y hy=>?_)).mono fun e w' ⟨q1,⟨ba,H',q2,q3,q4,q5⟩,q6⟩=>⟨q1,⟨ba,H',?_,q3,q4⟩,Gx.gw gW q6 (fun q hq=>?_)⟩
  ·obtain ⟨z1,z2⟩:=hbo h0
   exact ⟨z1,z2,(LO (ne h0)).2.1,Nat.lt_of_lt_of_le (LO (ne h0)).1 gW.size⟩
  ·have h0:0<L[i].l.length:=List.length_pos_of_mem hy
   exact (LO (ne h0)).2.2.2 y hy
  ·rw [List.take_add_one,List.getElem?_eq_getElem gX,Option.toList_some,Pe]
   have e:0+(L.take i).length=i:=by simp;omega
   rw [e];refine q2.trans (List.Perm.append h1 ?_);simp [ca]
  ·have:=rI.o
   rcases hq with x | x
   ·omega
   ·have:=(mM h3.row q x).1;omega
 have P5:ag (∀ (i:Nat) (hi:i<n) (W:World),Gw w W->∃ b off bo sc,ao=some ⟨b,off,none⟩/\W.cell? ⟨b,off+i,none⟩=some (.slice bo (L[i]'(by rw [LN.o];exact hi)).l.length sc)/\(0<(L[i]'(by rw [LN.o];exact hi)).l.length->bo=some ⟨(L[i]'(by rw [LN.o];exact hi)).b,(L[i]'(by rw [LN.o];exact hi)).off,none⟩/\sc=(L[i]'(by rw [LN.o];exact hi)).c)):=fun i hi W gW=>by
  obtain ⟨b,off,e,eP,hc⟩:=(P2.o.gw gW).cells (by rw [LN.o];omega)
  obtain ⟨bo,sc,q1,q2⟩:=hc i (by rw [LN.o];exact hi)
  exact ⟨b,off,bo,sc,e,q1,q2⟩
 have aL:ag (∀ (hv:Value) (H:List (Hd ah)) (W:World),H.Perm (ca key 0 (L.take n))->bP H->dZ 240 243 W hb (hb+1) (.func (.func K) #[] #[]) hv (.slice none 0 0) H->Gw w W->Tl 240 243 (gM) ah.ok key L hb K [] L hv (.slice none 0 0) H [] W):=fun hv H W h1 h2 h3 gW=>by
  rw [List.take_of_length_le (by rw [LN.o];exact Nat.le_refl _)] at h1
  refine ⟨h1,h2,⟨h3,EZ _ _ _,fun q _ e=>by cases e⟩,fun s hs=>by have:=eH s hs;rw [rI.o] at this;exact this,fun s hs ne=>(jW s hs ne).keep (gW.below.block _ (eH s hs ne).1),fun out ho=>by simpa using ho,rfl,by simp,by simp⟩
 clear hv eH jW hn FK rH P2;go_enter func137,ntmps137;rw [rI.o];go_wp2_with fail;rw [rI.o];go_loopg [13] n (fun gg rJ wr=>∃ (i:Nat) (hv:Value) (H:List (Hd ah)),rJ=AI (i:Int)/\i<=n/\n-i<=gg/\ag (H.Perm (ca key 0 (L.take i))/\bP H/\dZ 240 243 wr hb (hb+1) (.func (.func K) #[] #[]) hv (.slice none 0 0) H)/\ag (Gw w wr))
 case atStart=>exact ⟨0,.slice none 0 0,[],rfl,Nat.zero_le _,by omega,⟨by simp [ca],(fun i _ hi=>by simp at hi),⟨B1.o,EZ _ _ _,fun q e=>by cases e⟩⟩,G1⟩
 case round =>
  obtain ⟨i,hv,H,rfl,i1,i2,HH,GG⟩:=hrel;by_cases il:i<n
  ·have D7:(i:Int)<(n:Int):=by omega
   obtain ⟨b,off,bo,sc,rfl,q1,q2⟩:=P5.o i il wr GG.o;have PU:ag _:=fun W gW=>rG.o i il hv H W bo sc HH.o.1 HH.o.2.1 ⟨(gW.below.block _ (aC HH.o.2.2.blk)).trans HH.o.2.2.blk,tT HH.o.2.2.row gW,HH.o.2.2.ne⟩ (GG.o.trans gW) q2
   obtain ⟨ll,wv⟩:∃ ll,(L[i]'(by rw [LN.o];exact il)).l.length=ll:=⟨_,rfl⟩
   rw [wv] at q1 PU;clear q2 wv rG;go_wp2_with fail;refine (PU.o wr (Gw.refl _)).mono ?_;rintro ex u5 ⟨rfl,⟨ba,H',p1,p2,p3⟩,g5⟩;have H5:ag _:=And.intro p1 (And.intro p2 p3);have G5:ag _:=g5;clear p1 p2 p3 g5 PU;go_wp2_with fail;go_roundg (n-(i+1))
   case measure=>omega
   case rel=>exact ⟨i+1,ba,H',by go_num,by omega,Nat.le_refl _,H5,G5⟩
  ·have ei:i=n:=by omega
   subst ei;have D7:¬ ((i:Int)<(i:Int)):=by omega
   have FF:ag _:=aL.o hv H wr HH.o.1 HH.o.2.1 HH.o.2.2 GG.o;clear aL rG P5;go_wp2_with fail;go_ret;exact ⟨rfl,⟨hv,H,FF.o⟩,GG.o⟩
structure lH (w:World) (bx base:Nat) (va:Value) (o:List ah):Prop where
 blk:w.heap[bx]?=some (.cells #[va] 24 (0,0))
 row:EO w base va o
 ne:∀ q,va.ownBlock=some q->q≠bx
theorem abH (bx base:Nat) (va:Value) (o:List ah) (x:ah) (w:World) (hb:base<=w.heap.size) (ho:o.length<=3000000) (h:lH w bx base va o) :
  Calls prog 117 #[gL x,BY bx] w fun e w'=>e=.returned (.bool true)/\(∃ iJ,lH w' bx base iJ (o++[x])/\(∀ q,iJ.ownBlock=some q->va.ownBlock=some q\/w.heap.size<=q))/\Gx (fun q=>q=bx\/va.ownBlock=some q) w w':=by
 obtain ⟨hk,hr,ne⟩:=h;obtain ⟨n,hn⟩:∃ n,o.length=n:=⟨_,rfl⟩;have LN:ag _:=hn;rw [hn] at ho;have HB:ag _:=hk;have R0:ag _:=hr;have NE:ag _:=ne;have bl:bx<w.heap.size:=aC hk;have c0:w.cell? ⟨bx,0,none⟩=some va:=aj hk rfl;obtain ⟨xk,xv,xg⟩:=x;simp only [gL];obtain ⟨ii,aQ,hz,cU,aR⟩:=info_parts nK;obtain ⟨W1,E1⟩:∃ W1,w.alloc (.cells #[By xk,By xv,.bool xg] 75)=W1:=⟨_,rfl⟩;have G1:ag (Gw w W1):=by rw [<-E1];exact (Gw.refl w).alloc _ _
 have b1:W1.heap[w.heap.size]?=some (.cells #[By xk,By xv,.bool xg] 75 (0,0)):=by rw [<-E1];exact heap_alloc_new w _
 have d0:=aj (o:=0) b1 rfl;have d1:=aj (o:=1) b1 rfl;have d2:=aj (o:=2) b1 rfl;have k0:W1.cell? ⟨bx,0,none⟩=some va:=(G1.o.cell _ _ bl).trans c0;have l1:w.heap.size<W1.heap.size:=aC b1;have OW:ag ((W1.alloc (.cells #[By xk,By xv,.bool xg] 75)).ownsRow base 75 3 va n (o.flatMap aO)):=by
  have:=nT R0.o G1.o
  unfold EO at this;rw [LN.o] at this;exact this.alloc _
 have mP:ag (∀ (v':Value) (w7:World),w7.ownsRow base 75 3 v' (n+1) (o.flatMap aO++aO ⟨xk,xv,xg⟩)->(W1.alloc (.cells #[By xk,By xv,.bool xg] 75)).grownBy w7 va.ownBlock->(v'.ownBlock=va.ownBlock\/v'.ownBlock=some (W1.heap.size+1)) ->
   w7.heap[bx]?=some (.cells #[va] 24 (0,0))/\(∃ iJ,lH (w7.setCell ⟨bx,0,none⟩ v') bx base iJ (o++[⟨xk,xv,xg⟩])/\(∀ q,iJ.ownBlock=some q->va.ownBlock=some q\/w.heap.size<=q))/\Gx (fun q=>q=bx\/va.ownBlock=some q) w (w7.setCell ⟨bx,0,none⟩ v')):=fun v' w7 r1 r2 r4=>by
  have s1:=G1.o.size;have b7:w7.heap[bx]?=some (.cells #[va] 24 (0,0)):=(r2.block bx (by simp;omega) (fun e=>NE.o bx e.symm rfl)).trans ((heap_alloc_old _ _ (by omega)).trans ((G1.o.below.block bx bl).trans HB.o))
  have nv:∀ q,v'.ownBlock=some q->va.ownBlock=some q\/w.heap.size<=q:=fun q hq=>by
   rcases r4 with e | e
   ·rw [e] at hq;exact .inl hq
   ·rw [e] at hq;cases hq;exact .inr (by omega)
  have ne':∀ q,v'.ownBlock=some q->q≠bx:=fun q hq=>by
   rcases nv q hq with e | e
   ·exact NE.o q e
   ·omega
  refine ⟨b7,⟨v',⟨lE b7 _,?_,ne'⟩,nv⟩,?_⟩
  ·exact mL (rf (by rw [LN.o];exact r1)) fun q hq=>Go.Deep.blk_setCell_other _ _ _ _ (ne' q hq)
  ·exact ((((G1.o.alloc _ _).gx _).grown r2 (fun q hq=>.inl (.inr hq))).set (.inl (Or.inl rfl)) _ _)
 clear hk hr ne hn c0 b1 R0 NE HB;go_enter func117,ntmps117;go_wp2_with (at_builtin;refine wpList_append_own_at _ rfl _ _ 24 rfl base 75 ii (.agg #[By 0,By 0,.bool false]) 3 24 underlying24 aQ hz cU aR rfl (by decide) _ n _ rfl OW.o ⟨W1.heap.size,0,none⟩ 1 1 (aO ⟨xk,xv,xg⟩) rfl rfl (pC W1 ⟨xk,xv,xg⟩) (mJ _) (by simp only [maxLen];omega) (by omega) (by simp;omega) ?_)
 intro v' w7 r1 r2 r3 r4;obtain ⟨b8,cap8,ev,_,_,_⟩:=dh r1 (by simpa using r3)
 obtain ⟨B7,A7,G7⟩:=mP.o v' w7 r1 r2 (by simpa using r4)
 have k7:=aj (o:=0) B7 rfl;have f7:=bT (o:=0) B7;have l7:=aC B7;have A8:ag _:=And.intro A7 G7;clear B7 A7 G7 r1 r2 r3 r4 mP OW;subst ev;go_wp2_with fail;go_ret;exact ⟨rfl,A8.o.1,A8.o.2⟩
theorem Qa:Ao gL ah.k ah.ok 116:=by
 refine ⟨fun args W=>rfl,fun W x _=>?_⟩
 obtain ⟨xk,xv,xg⟩:=x;simp only [gL];go_enter func116,ntmps116;go_wp2_with fail;go_ret;exact ⟨rfl,(Gw.refl W).alloc _ _⟩
structure uk (w:World) (L:List (aJ ah)) (hb bx:Nat) (told:List ah) (Lc:List (aJ ah)) (hv pv:Value) (H P:List (Hd ah)) (va:Value) (wr:World):Prop where
 tl:Tl 240 243 gM ah.ok ah.k L hb 116 told Lc hv pv H P wr
 al:lH wr bx hb va told
 ap:∀ q,gK hb hv pv q->va.ownBlock≠some q
 nb:∀ s∈Lc,s.l≠[]->s.b≠bx
 gx:Gx (fun q=>q=bx) w wr
 bl:bx<hb/\hb=w.heap.size/\hb<wr.heap.size
theorem uk.next {w:World} {L:List (aJ ah)} {hb bx:Nat} {told:List ah} {Lc:List (aJ ah)} {hv pv:Value} {H P:List (Hd ah)} {va:Value} {wr w':World} {zero:Value} {e:Ending} (h:uk w L hb bx told Lc hv pv H P va wr) (ne:H≠[]) (r:wH 240 243 wr hb 116 3 hv pv H ah.k gL zero e w') :
  ∃ x jV ba jv H' P',e=.returned (.tuple #[gL x,.bool true])/\aF (jV.map aJ.l)<aF (Lc.map aJ.l)/\w.heap.size<=w'.heap.size/\lH w' bx hb va told/\told.length<aF (L.map aJ.l)/\∀ w4 w5 iJ,Gw w' w4->lH w5 bx hb iJ (told++[x])->(∀ q,iJ.ownBlock=some q->va.ownBlock=some q\/w4.heap.size<=q)->Gx (fun q=>q=bx\/va.ownBlock=some q) w4 w5->uk w L hb bx (told++[x]) jV ba jv H' P' iJ w5:=by
 obtain ⟨x,jV,ba,jv,H',P',r1,r2,r3,r4,r5,r6,r7⟩:=h.tl.next elpE h.bl.2.2 ne r;have bu:=h.bl;have s1:=r5.size;have nbx:¬ gK hb hv pv bx:=fun e=>by have:=(h.tl.st.lt e).1;omega
 have al':lH w' bx hb va told:=⟨(r5.block bx (aC h.al.blk) nbx).trans h.al.blk,mL h.al.row fun q hq=>r5.block q (World.ownsRow.lt h.al.row q hq).2 (fun e=>h.ap q e hq),h.al.ne⟩
 have tn:=r3.tn;have g0:Gx (fun q=>q=bx) w w':=h.gx.trans r5 (fun q hq=>.inr (by have:=(h.tl.st.lt hq).1;omega))
 have kB:∀ s∈jV,s.l≠[]->s.b≠bx:=fun s hs ns=>by
  obtain ⟨s0,q1,q2,q3⟩:=r7 s hs ns;rw [q3];exact h.nb s0 q1 q2
 have Qb:∀ q,gK hb ba jv q->va.ownBlock≠some q:=fun q hq e=>by
  rcases r4 q hq with y | y
  ·exact h.ap q y e
  ·have:=(World.ownsRow.lt h.al.row q e).2;omega
 refine ⟨x,jV,ba,jv,H',P',r1,r6,Nat.le_trans h.gx.size s1,al',by rw [List.length_append] at tn;simp at tn;omega,fun w4 w5 iJ g4 a5 o5 g5=>⟨?_,a5,fun q hq e=>?_,kB,?_,⟨bu.1,bu.2.1,by have:=g4.size;have:=g5.size;omega⟩⟩⟩
 ·refine r3.keep elpE (fun q hq=>?_) (fun s hs ns=>?_)
  ·have ql:=(r3.st.lt hq)
   exact (g5.block q (by have:=g4.size;omega) (fun e=>by
    rcases e with e | e
    ·omega
    ·exact Qb q hq e)).trans (g4.below.block q ql.2)
  ·have sb:=(r3.mem s hs ns).1
   exact (g5.block _ (by have:=g4.size;omega) (fun e=>by
    rcases e with e | e
    ·exact kB s hs ns e
    ·have:=(World.ownsRow.lt h.al.row _ e).1;omega)).trans (g4.below.block _ (by omega))
 ·rcases o5 q e with y | y
  ·exact Qb q hq y
  ·have:=(r3.st.lt hq).2;have:=g4.size;omega
 ·refine (g0.tw g4).trans g5 (fun q hq=>?_)
  rcases hq with e | e
  ·exact .inl e
  ·exact .inr (by have:=(World.ownsRow.lt h.al.row q e).1;omega)
theorem abI (L:List (aJ ah)) (ao:Option Addr) (c bx:Nat) (hL:L.length<=2000000) (hS:aF (L.map aJ.l)<=2000000) (w:World) (hv:LV w ao L) (eH:∀ s∈L,pI ah.ok w.heap.size s) (jW:∀ s∈L,s.l≠[]->gM w s) (nb:∀ s∈L,s.l≠[]->s.b≠bx) (dT:w.heap[bx]?=some (.cells #[.slice none 0 0] 24 (0,0))) :
  Calls prog 115 #[.func (.func 116) #[] #[],.slice ao L.length c,.func (.func 117) #[] #[BY bx]] w fun e w'=>e=.returned (.tuple #[])/\(∃ va o,Mg ah.k (L.map aJ.l) o/\lH w' bx w.heap.size va o)/\Gx (fun q=>q=bx) w w':=by
 obtain ⟨n,hn⟩:∃ n,L.length=n:=⟨_,rfl⟩;have HO:=abG 116 ah.k Qa L ao c (by omega) w hv eH jW
 rw [hn] at HO ⊢;have Fz:ag _:=HO;have LN:ag _:=hn;have Qc:ag _:=aC dT;have BX0:ag _:=dT;have NB:ag _:=nb;have ST:ag (∀ W hv H,Tl 240 243 gM ah.ok ah.k L w.heap.size 116 [] L hv (.slice none 0 0) H [] W->Gw w W->uk w L w.heap.size bx [] L hv (.slice none 0 0) H [] (.slice none 0 0) W):=fun W hv H t g=>⟨t,⟨(g.below.block _ Qc.o).trans BX0.o,World.ownsRow_nil _ _ _ _,(fun q e=>by cases e)⟩,(fun q _ e=>by cases e),NB.o,g.gx _,⟨Qc.o,rfl,aC t.st.hp.blk⟩⟩
 obtain ⟨hb,rH⟩:∃ hb,w.heap.size=hb:=⟨_,rfl⟩;have rI:ag _:=rH;rw [rH] at Fz ST;have NX:ag (∀ told Lc hv pv H P va wr,uk w L hb bx told Lc hv pv H P va wr->Calls prog 138 #[BY hb] wr fun e w'=>wH 240 243 wr hb 116 3 hv pv H ah.k gL (.agg #[By 0,By 0,.bool false]) e w'):=fun told Lc hv pv H P va wr h=>abF hb _ hv pv H P ah.k Qa (by have:=h.tl.few;omega) (by have:=h.tl.pl;omega) wr h.tl.st h.tl.ho (h.tl.me (by omega))
 have E1:ag (∀ va o x W,hb<=W.heap.size->o.length<=3000000->lH W bx hb va o->Calls prog 117 #[gL x,BY bx] W fun e w'=>e=.returned (.bool true)/\(∃ iJ,lH w' bx hb iJ (o++[x])/\(∀ q,iJ.ownBlock=some q->va.ownBlock=some q\/W.heap.size<=q))/\Gx (fun q=>q=bx\/va.ownBlock=some q) W w'):=fun va o x W h1 h2 h3=>abH bx hb va o x W h1 h2 h3
 obtain ⟨sz,cU⟩:∃ sz,aF (L.map aJ.l)=sz:=⟨_,rfl⟩;have SZ:ag _:=cU;rw [cU] at hS;clear HO hv eH jW hn nb dT rH cU;go_enter func115,ntmps115;go_wp2_with fail;refine Calls.mono Fz.o ?_;rintro e w1 ⟨rfl,⟨hv,H,t1⟩,g1⟩;have T1:ag _:=ST.o w1 hv H t1 g1;clear t1 g1 Fz ST;go_wp2_with fail;go_loopg [] (sz+1) (fun gg wr=>∃ (told:List ah) (Lc:List (aJ ah)) (hv pv:Value) (H P:List (Hd ah)) (va:Value) (m:Nat),m<gg/\ag (aF (Lc.map aJ.l)=m)/\ag (uk w L hb bx told Lc hv pv H P va wr))
 case atStart=>exact ⟨[],L,hv,_,H,[],_,sz,by omega,SZ,T1⟩
 case round =>
  clear T1;obtain ⟨told,Lc,hv,pv,H,P,va,m,mg,MS,TT⟩:=hrel;obtain ⟨wS,bj⟩:∃ wx,wx=wr:=⟨_,rfl⟩;subst bj;have Ay:ag _:=NX.o _ _ _ _ _ _ _ _ TT.o;by_cases hE:H=[]
  ·have wR:ag (Calls prog 138 #[BY hb] wS fun e w'=>e=.returned (.tuple #[.agg #[By 0,By 0,.bool false],.bool false])/\Gw wS w'):=Calls.mono Ay.o fun e w' r=>r.1 hE
   have OV:ag _:=TT.o.tl.over hE;clear hE NX Ay E1;go_wp2_with fail;refine Calls.mono wR.o ?_;rintro e w2 ⟨rfl,g2⟩;have G2:ag (Gw wS (w2.alloc (.cells #[By 0,By 0,.bool false] 75))):=g2.alloc _ _;clear g2 wR;go_wp2_with fail;refine bodyPost_ret (results_none rfl _ _ _) rfl ?_;exact ⟨rfl,⟨va,told,OV.o,by
    have a:=TT.o.al;rw [rI.o];exact ⟨(G2.o.below.block _ (aC a.blk)).trans a.blk,nT a.row G2.o,a.ne⟩⟩,TT.o.gx.tw G2.o⟩
  ·have wR:ag _:=Calls.mono Ay.o fun e w' r=>TT.o.next hE r
   clear hE NX Ay;go_wp2_with fail;refine Calls.mono wR.o ?_;rintro e w2 ⟨x,jV,ba,jv,H',P',rfl,slt,Qd,Qe,Qf,Qg⟩;have SLT:ag (aF (jV.map aJ.l)<m):=by rw [<-MS.o];exact slt
   have SGR:ag (hb<=w2.heap.size):=by rw [<-rI.o];exact Qd
   have Az:ag _:=Qe;have TLT:ag (told.length<=3000000):=by rw [SZ.o] at Qf;show _<=_;omega
   have Qh:ag _:=Qg;clear slt Qd Qe Qf Qg wR;have EX:=fun W=>E1.o va told x W
   obtain ⟨xk,xv,xg⟩:=x;simp only [gL] at EX;obtain ⟨W3,E3⟩:∃ W3,w2.alloc (.cells #[By xk,By xv,.bool xg] 75)=W3:=⟨_,rfl⟩;have G3:ag (Gw w2 W3):=by rw [<-E3];exact (Gw.refl w2).alloc _ _
   have b3:W3.heap[w2.heap.size]?=some (.cells #[By xk,By xv,.bool xg] 75 (0,0)):=by rw [<-E3];exact heap_alloc_new w2 _
   have d0:=aj (o:=0) b3 rfl;have d1:=aj (o:=1) b3 rfl;have d2:=aj (o:=2) b3 rfl;have l3:w2.heap.size<W3.heap.size:=aC b3;have Qi:ag _:=EX W3 (Nat.le_trans SGR.o G3.o.size) TLT.o ⟨(G3.o.below.block _ (aC Az.o.blk)).trans Az.o.blk,nT Az.o.row G3.o,Az.o.ne⟩;clear EX E1 b3;simp only [gL];go_wp2_with fail;refine Calls.mono Qi.o ?_;rintro e w5 ⟨rfl,⟨iJ,a5,o5⟩,g5⟩;have T5:ag _:=Qh.o W3 w5 iJ G3.o a5 o5 g5;clear a5 o5 g5 Qh Qi;obtain ⟨m',vt⟩:∃ m',aF (jV.map aJ.l)=m':=⟨_,rfl⟩;have MS':ag _:=vt;have ml:m'<m:=by rw [<-vt];exact SLT.o
   clear vt;go_wp2_with fail;go_roundg (m'+1)
   case measure=>omega
   case rel=>exact ⟨_,jV,ba,jv,H',P',iJ,m',by omega,MS',T5⟩
end Go.Proofs.YtcboobmfnmgldaaGreat
