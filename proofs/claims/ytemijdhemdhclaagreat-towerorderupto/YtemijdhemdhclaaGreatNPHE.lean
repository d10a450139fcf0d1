/- Package merge: which of two heads is ahead; the first of three; a head rises. -/
import Derived.Deep.CutBlock
import Derived.Deep.DeepCutAuto
import Derived.StillTailTactics
import Derived.Test.YtemijdhemdhclaaGreatNPEl
set_option linter.unusedVariables false
set_option maxHeartbeats 8000000
set_option maxRecDepth 20000
open Go.Proofs.Tryz
namespace Go.Proofs.YtemijdhemdhclaaGreat
open Go.RowKit
theorem ahead_e {α:Type} (x y:Hd α) (w:World):Calls prog 124 #[x.v,y.v] w fun e w'=>e=.returned (.bool (aheadB x y))/\Gw w w':=by
 obtain ⟨k1,i1,⟨b1,o1,c1,l1⟩⟩:=x;obtain ⟨k2,i2,⟨b2,o2,c2,l2⟩⟩:=y;simp only [Hd.v];obtain ⟨n1,hn1⟩:∃ n,l1.length=n:=⟨_,rfl⟩;obtain ⟨n2,hn2⟩:∃ n,l2.length=n:=⟨_,rfl⟩;rw [hn1,hn2];have AB:∀ r:Bool,((decide (k1<k2)||(decide (k1=k2)&&decide (i1<i2)))=r)->Aside (aheadB (⟨k1,i1,⟨b1,o1,c1,l1⟩⟩:Hd α) ⟨k2,i2,⟨b2,o2,c2,l2⟩⟩=r):=fun r h=>h
 have G:Aside (Gw w ((w.alloc (.cells #[.int .u64 k1,.int .i64 (i1:Int),.slice (some ⟨b1,o1,none⟩) n1 c1] 158)).alloc (.cells #[.int .u64 k2,.int .i64 (i2:Int),.slice (some ⟨b2,o2,none⟩) n2 c2] 158))):=((Gw.refl w).alloc _ _).alloc _ _;by_cases t1:k1<k2
 ·have A:=AB true (by simp [t1])
  have t1':decide (k1<k2)=true:=by simpa using t1
  clear AB t1;go_enter func124,ntmps124;go_wp2_with fail;go_ret;exact ⟨by rw [A.out];rfl,G.out⟩
 ·have t1':decide (k1<k2)=false:=by simpa using t1
  by_cases t2:k1=k2
  ·have t2':(k1 == k2)=true:=by simpa using t2
   by_cases t3:i1<i2
   ·have A:=AB true (by simp [t2,t3])
    have t3':decide ((i1:Int)<(i2:Int))=true:=by simpa using t3
    clear AB t1 t2;go_enter func124,ntmps124;go_wp2_with fail;go_ret;exact ⟨by rw [A.out];rfl,G.out⟩
   ·have A:=AB false (by simp [t1,t3])
    have t3':decide ((i1:Int)<(i2:Int))=false:=by simpa using t3
    clear AB t1 t2;go_enter func124,ntmps124;go_wp2_with fail;go_ret;exact ⟨by rw [A.out];rfl,G.out⟩
  ·have A:=AB false (by simp [t1,t2])
   have t2':(k1 == k2)=false:=by simpa using t2
   clear AB t1 t2;go_enter func124,ntmps124;go_wp2_with fail;go_ret;exact ⟨by rw [A.out];rfl,G.out⟩
theorem below_e {α:Type} (hb a n g cap base:Nat) (kf pv:Value) (H:List (Hd α)) (hn:H.length=n) (hn2:n<=4000000) (ha:a<=4000000) (w:World) (hh:w.heap[hb]?=some (.cells #[kf,.slice (some ⟨g,0,none⟩) n cap,pv] 155 (0,0))) (hr:HR 158 w base (.slice (some ⟨g,0,none⟩) n cap) H) :
  Calls prog 125 #[.pointer (some ⟨hb,0,none⟩),.int .i64 (a:Int)] w fun e w'=>(∃ d:Nat,e=.returned (.int .i64 (d:Int))/\BelowR H a d)/\Gw w w':=by
 obtain ⟨a2,ha2⟩:∃ a2:Nat,a2=2*a:=⟨_,rfl⟩;obtain ⟨c1,hc1⟩:∃ c:Nat,c=2*a+1:=⟨_,rfl⟩;obtain ⟨c2,hc2⟩:∃ c:Nat,c=2*a+2:=⟨_,rfl⟩;have w1:IntKind.i64.wrap (2*(a:Int))=(a2:Int):=by rw [IntKind.wrap_i64];omega
 have w2:IntKind.i64.wrap ((a2:Int)+1)=(c1:Int):=by rw [IntKind.wrap_i64];omega
 have w3:IntKind.i64.wrap ((a2:Int)+2)=(c2:Int):=by rw [IntKind.wrap_i64];omega
 have C1:Aside _:=hc1;have C2:Aside _:=hc2;have HB:Aside _:=hh;have HRw:Aside _:=hr;have LN:Aside _:=hn;have AH:Hid (∀ (x y:Hd α) (W:World),Calls prog 124 #[x.v,y.v] W fun e w'=>e=.returned (.bool (aheadB x y))/\Gw W w'):=fun x y W=>ahead_e x y W
 have ncap:=(hr_cells hr hn).2.1;have hi0:∀ W:World,(Instr.index 204 (.agg #[.int .i64 (c1:Int),.int .i64 (c2:Int)]) (.int .i64 0)).run prog W=.ok (.int .i64 (c1:Int)) W:=fun _=>by kernel_rfl
 have hi1:∀ W:World,(Instr.index 204 (.agg #[.int .i64 (c1:Int),.int .i64 (c2:Int)]) (.int .i64 1)).run prog W=.ok (.int .i64 (c2:Int)) W:=fun _=>by kernel_rfl
 clear hh hr hn ha2 hc1 hc2;go_enter func125,ntmps125;go_wp2_with fail;go_loopg [5,16] 2 (fun gg s5 s16 wr=>∃ (f j:Nat),s5=.int .i64 (f:Int)/\s16=.int .i64 (j:Int)/\j<=2/\2-j<=gg/\Aside (BelowI H a j f)/\Aside (Gw w wr))
 case atStart=>exact ⟨a,0,rfl,rfl,Nat.zero_le _,by omega,BelowI.start H a,Gw.refl w⟩
 case round =>
  obtain ⟨f,j,rfl,rfl,j2,jg,BI,GG⟩:=hrel;have hbl:hb<w.heap.size:=blkl HB.out;have gl:g<w.heap.size:=(hr_cells HRw.out LN.out).2.2.1;have hcell:wr.cell? ⟨hb,1,none⟩=some (.slice (some ⟨g,0,none⟩) n cap):=(GG.out.cell _ _ hbl).trans (blkc HB.out rfl);by_cases jl:j<2
  ·rcases (show j=0\/j=1 by omega) with rfl | rfl
   ·by_cases cl:c1<n
    ·have cl':decide ((c1:Int)<(n:Int))=true:=by simpa using cl
     have fl:f<n:=by have:=BI.out.lt C1.out (by rw [LN.out];exact cl);rw [LN.out] at this;exact this
     have hcs:=(hr_cells HRw.out LN.out).2.2.2;obtain ⟨e0,e1,e2⟩:=hcs c1 cl;obtain ⟨f0,f1,f2⟩:=hcs f fl;clear hcs;obtain ⟨x,hx⟩:∃ x,gt H c1=x:=⟨_,rfl⟩;obtain ⟨y,hy⟩:∃ y,gt H f=y:=⟨_,rfl⟩;have STAY:Aside (aheadB x y=false->BelowI H a (0+1) f):=fun q=>BI.out.stay C1.out (by rw [hx,hy];exact aheadB_not.1 q)
     have TURN:Aside (aheadB x y=true->BelowI H a (0+1) c1):=fun q=>BI.out.turn (by omega) C1.out (by rw [LN.out];exact cl) (by rw [hx,hy];exact aheadB_iff.1 q)
     rw [hx] at e0 e1 e2;rw [hy] at f0 f1 f2;have AX:=AH.out x y;obtain ⟨ab,hab⟩:∃ ab,aheadB x y=ab:=⟨_,rfl⟩;rw [hab] at AX STAY TURN;obtain ⟨xk,xi,⟨xb,xo,xc,xl⟩⟩:=x;obtain ⟨yk,yi,⟨yb,yo,yc,yl⟩⟩:=y;simp only [Hd.v,Lst.v] at AX e2 f2;obtain ⟨xn,hxn⟩:∃ m,xl.length=m:=⟨_,rfl⟩;obtain ⟨yn,hyn⟩:∃ m,yl.length=m:=⟨_,rfl⟩;rw [hxn] at AX e2;rw [hyn] at AX f2;have AX':Hid _:=AX;have HW:Hid (∀ w',Gw wr w'->Gw wr w'/\w'.cell? ⟨hb,1,none⟩=some (.slice (some ⟨g,0,none⟩) n cap)/\w'.cell? ⟨g,c1*3,none⟩=some (.int .u64 xk)/\w'.cell? ⟨g,c1*3+1,none⟩=some (.int .i64 (xi:Int))/\w'.cell? ⟨g,c1*3+2,none⟩=some (.slice (some ⟨xb,xo,none⟩) xn xc)/\w'.cell? ⟨g,f*3,none⟩=some (.int .u64 yk)/\w'.cell? ⟨g,f*3+1,none⟩=some (.int .i64 (yi:Int))/\w'.cell? ⟨g,f*3+2,none⟩=some (.slice (some ⟨yb,yo,none⟩) yn yc)):=fun w' gg=>by
      have G':=GG.out.trans gg;have k:=fun o=>G'.cell g o gl
      exact ⟨gg,(gg.cell _ _ (Nat.lt_of_lt_of_le hbl GG.out.size)).trans hcell,(k _).trans e0,(k _).trans e1,(k _).trans e2,(k _).trans f0,(k _).trans f1,(k _).trans f2⟩
     clear hx hy hab hxn hyn AX e0 e1 e2 f0 f1 f2 hcell BI;obtain ⟨wS,hwS⟩:∃ wx,wx=wr:=⟨_,rfl⟩;subst hwS;go_wp2_with fail;go_region_held3 (fun w'=>Gw wS w'/\w'.cell? ⟨hb,1,none⟩=some (.slice (some ⟨g,0,none⟩) n cap)/\w'.cell? ⟨g,c1*3,none⟩=some (.int .u64 xk)/\w'.cell? ⟨g,c1*3+1,none⟩=some (.int .i64 (xi:Int))/\w'.cell? ⟨g,c1*3+2,none⟩=some (.slice (some ⟨xb,xo,none⟩) xn xc)/\w'.cell? ⟨g,f*3,none⟩=some (.int .u64 yk)/\w'.cell? ⟨g,f*3+1,none⟩=some (.int .i64 (yi:Int))/\w'.cell? ⟨g,f*3+2,none⟩=some (.slice (some ⟨yb,yo,none⟩) yn yc))
      ((refine HW.out _ ?_;(repeat (first | exact Gw.refl _ | exact And.left (by assumption) | exact Hid.out (by assumption) | refine Gw.drew ?_ | refine Gw.drewN ?_ _));done))
      ((go_at_call 124;refine (AX'.out _).mono ?_;rintro ex u5 ⟨rfl,g5⟩;have G5:Hid (Gw wS u5):=Gw.trans (by repeat (first | exact Gw.refl _ | exact And.left (by assumption) | exact Hid.out (by assumption) | refine Gw.drew ?_ | refine Gw.drewN ?_ _)) g5;clear g5))
     have GX:Aside _:=GG.out.trans G5.out;cases ab with
     | true =>
      have D:=TURN.out rfl;have DD:Aside _:=D;clear D STAY TURN HW;go_wp2_with fail;go_roundg (2-(0+1))
      case measure=>omega
      case rel=>exact ⟨c1,0+1,rfl,by go_num,by omega,Nat.le_refl _,DD,GX⟩
     | false =>
      have D:=STAY.out rfl;have DD:Aside _:=D;clear D STAY TURN HW;go_wp2_with fail;go_roundg (2-(0+1))
      case measure=>omega
      case rel=>exact ⟨f,0+1,rfl,by go_num,by omega,Nat.le_refl _,DD,GX⟩
    ·have cl':decide ((c1:Int)<(n:Int))=false:=by simp;omega
     have D:=BI.out.out C1.out (by rw [LN.out];exact cl)
     have DD:Aside _:=D;clear D BI;go_wp2_with fail;go_quiet (fail);go_wp2_with fail;go_roundg (2-(0+1))
     case measure=>omega
     case rel=>exact ⟨f,0+1,rfl,by go_num,by omega,Nat.le_refl _,DD,(show Aside _ from by repeat (first | exact GG.out | refine Gw.drew ?_ | refine Gw.drewN ?_ _))⟩
   ·by_cases cl:c2<n
    ·have cl':decide ((c2:Int)<(n:Int))=true:=by simpa using cl
     have fl:f<n:=by have:=BI.out.lt C2.out (by rw [LN.out];exact cl);rw [LN.out] at this;exact this
     have hcs:=(hr_cells HRw.out LN.out).2.2.2;obtain ⟨e0,e1,e2⟩:=hcs c2 cl;obtain ⟨f0,f1,f2⟩:=hcs f fl;clear hcs;obtain ⟨x,hx⟩:∃ x,gt H c2=x:=⟨_,rfl⟩;obtain ⟨y,hy⟩:∃ y,gt H f=y:=⟨_,rfl⟩;have STAY:Aside (aheadB x y=false->BelowI H a (1+1) f):=fun q=>BI.out.stay C2.out (by rw [hx,hy];exact aheadB_not.1 q)
     have TURN:Aside (aheadB x y=true->BelowI H a (1+1) c2):=fun q=>BI.out.turn (by omega) C2.out (by rw [LN.out];exact cl) (by rw [hx,hy];exact aheadB_iff.1 q)
     rw [hx] at e0 e1 e2;rw [hy] at f0 f1 f2;have AX:=AH.out x y;obtain ⟨ab,hab⟩:∃ ab,aheadB x y=ab:=⟨_,rfl⟩;rw [hab] at AX STAY TURN;obtain ⟨xk,xi,⟨xb,xo,xc,xl⟩⟩:=x;obtain ⟨yk,yi,⟨yb,yo,yc,yl⟩⟩:=y;simp only [Hd.v,Lst.v] at AX e2 f2;obtain ⟨xn,hxn⟩:∃ m,xl.length=m:=⟨_,rfl⟩;obtain ⟨yn,hyn⟩:∃ m,yl.length=m:=⟨_,rfl⟩;rw [hxn] at AX e2;rw [hyn] at AX f2;have AX':Hid _:=AX;have HW:Hid (∀ w',Gw wr w'->Gw wr w'/\w'.cell? ⟨hb,1,none⟩=some (.slice (some ⟨g,0,none⟩) n cap)/\w'.cell? ⟨g,c2*3,none⟩=some (.int .u64 xk)/\w'.cell? ⟨g,c2*3+1,none⟩=some (.int .i64 (xi:Int))/\w'.cell? ⟨g,c2*3+2,none⟩=some (.slice (some ⟨xb,xo,none⟩) xn xc)/\w'.cell? ⟨g,f*3,none⟩=some (.int .u64 yk)/\w'.cell? ⟨g,f*3+1,none⟩=some (.int .i64 (yi:Int))/\w'.cell? ⟨g,f*3+2,none⟩=some (.slice (some ⟨yb,yo,none⟩) yn yc)):=fun w' gg=>by
      have G':=GG.out.trans gg;have k:=fun o=>G'.cell g o gl
      exact ⟨gg,(gg.cell _ _ (Nat.lt_of_lt_of_le hbl GG.out.size)).trans hcell,(k _).trans e0,(k _).trans e1,(k _).trans e2,(k _).trans f0,(k _).trans f1,(k _).trans f2⟩
     clear hx hy hab hxn hyn AX e0 e1 e2 f0 f1 f2 hcell BI;obtain ⟨wS,hwS⟩:∃ wx,wx=wr:=⟨_,rfl⟩;subst hwS;go_wp2_with fail;go_region_held3 (fun w'=>Gw wS w'/\w'.cell? ⟨hb,1,none⟩=some (.slice (some ⟨g,0,none⟩) n cap)/\w'.cell? ⟨g,c2*3,none⟩=some (.int .u64 xk)/\w'.cell? ⟨g,c2*3+1,none⟩=some (.int .i64 (xi:Int))/\w'.cell? ⟨g,c2*3+2,none⟩=some (.slice (some ⟨xb,xo,none⟩) xn xc)/\w'.cell? ⟨g,f*3,none⟩=some (.int .u64 yk)/\w'.cell? ⟨g,f*3+1,none⟩=some (.int .i64 (yi:Int))/\w'.cell? ⟨g,f*3+2,none⟩=some (.slice (some ⟨yb,yo,none⟩) yn yc))
      ((refine HW.out _ ?_;(repeat (first | exact Gw.refl _ | exact And.left (by assumption) | exact Hid.out (by assumption) | refine Gw.drew ?_ | refine Gw.drewN ?_ _));done))
      ((go_at_call 124;refine (AX'.out _).mono ?_;rintro ex u5 ⟨rfl,g5⟩;have G5:Hid (Gw wS u5):=Gw.trans (by repeat (first | exact Gw.refl _ | exact And.left (by assumption) | exact Hid.out (by assumption) | refine Gw.drew ?_ | refine Gw.drewN ?_ _)) g5;clear g5))
     have GX:Aside _:=GG.out.trans G5.out;cases ab with
     | true =>
      have D:=TURN.out rfl;have DD:Aside _:=D;clear D STAY TURN HW;go_wp2_with fail;go_roundg (2-(1+1))
      case measure=>omega
      case rel=>exact ⟨c2,1+1,rfl,by go_num,by omega,Nat.le_refl _,DD,GX⟩
     | false =>
      have D:=STAY.out rfl;have DD:Aside _:=D;clear D STAY TURN HW;go_wp2_with fail;go_roundg (2-(1+1))
      case measure=>omega
      case rel=>exact ⟨f,1+1,rfl,by go_num,by omega,Nat.le_refl _,DD,GX⟩
    ·have cl':decide ((c2:Int)<(n:Int))=false:=by simp;omega
     have D:=BI.out.out C2.out (by rw [LN.out];exact cl)
     have DD:Aside _:=D;clear D BI;go_wp2_with fail;go_quiet (fail);go_wp2_with fail;go_roundg (2-(1+1))
     case measure=>omega
     case rel=>exact ⟨f,1+1,rfl,by go_num,by omega,Nat.le_refl _,DD,(show Aside _ from by repeat (first | exact GG.out | refine Gw.drew ?_ | refine Gw.drewN ?_ _))⟩
  ·have ej:j=2:=by omega
   subst ej;have DN:Aside _:=BI.out.done;clear BI;go_wp2_with fail;go_ret;exact ⟨⟨f,rfl,DN.out⟩,GG.out⟩
theorem rise_e {α:Type} (hb a n g cap base:Nat) (kf pv:Value) (H:List (Hd α)) (hn:H.length=n) (hn2:n<=4000000) (ha:a<n) (w:World) (hp:Hpm 155 158 w hb base kf (.slice (some ⟨g,0,none⟩) n cap) pv H) (hR:RiseOn H a) :
  Calls prog 111 #[.pointer (some ⟨hb,0,none⟩),.int .i64 (a:Int)] w fun e w'=>e=.returned (.tuple #[])/\(∃ H',H'.Perm H/\HeapOn H'/\HR 158 w' base (.slice (some ⟨g,0,none⟩) n cap) H')/\Gx (fun q=>q=g) w w':=by
 obtain ⟨hh,hr,ne⟩:=hp;have gne:g≠hb:=ne g rfl;have HB:Aside _:=hh;have AH:Hid (∀ (x y:Hd α) (W:World),Calls prog 124 #[x.v,y.v] W fun e w'=>e=.returned (.bool (aheadB x y))/\Gw W w'):=fun x y W=>ahead_e x y W
 have hbl:hb<w.heap.size:=blkl hh;have gl:g<w.heap.size:=(hr_cells hr hn).2.2.1;have ncap:=(hr_cells hr hn).2.1;have R0:Aside _:=hr;have RI0:Aside _:=hR;have LN:Aside _:=hn;clear hh hr ne hR hn;go_enter func111,ntmps111;go_wp2_with fail;go_loopg [1] a (fun gg s1 wr=>∃ (b:Nat) (H':List (Hd α)),s1=.int .i64 (b:Int)/\b<n/\b<=gg/\Aside (RiseOn H' b/\H'.Perm H/\H'.length=n/\HR 158 wr base (.slice (some ⟨g,0,none⟩) n cap) H')/\Aside (Gx (fun q=>q=g) w wr))
 case atStart=>exact ⟨a,H,rfl,ha,Nat.le_refl _,⟨RI0.out,List.Perm.refl _,LN.out,R0.out⟩,Gx.refl _ _⟩
 case round =>
  obtain ⟨b,H',rfl,bn,bg,HH,GG⟩:=hrel;have hcell:wr.heap[hb]?=some (.cells #[kf,.slice (some ⟨g,0,none⟩) n cap,pv] 155 (0,0)):=(GG.out.block _ hbl (fun e=>gne e.symm)).trans HB.out
  have HBr:Aside _:=hcell;by_cases b0:0<b
  ·have b0':decide ((0:Int)<(b:Int))=true:=by simpa using b0
   obtain ⟨p,hp⟩:∃ p:Nat,p=b-1:=⟨_,rfl⟩;obtain ⟨u,hu⟩:∃ u:Nat,u=(b-1)/2:=⟨_,rfl⟩;have w1:IntKind.i64.wrap ((b:Int)-1)=(p:Int):=by rw [IntKind.wrap_i64];omega
   have w2:Hid (wrap64 ((p:Int)/2)=(u:Int)):=by
    show _=_;have e:(p:Int)/2=(u:Int):=by omega
    rw [e];unfold wrap64;omega
   have un:u<n:=by omega
   have ub:u<b:=by omega
   have UE:Aside _:=hu;obtain ⟨x,hx⟩:∃ x,gt H' b=x:=⟨_,rfl⟩;obtain ⟨y,hy⟩:∃ y,gt H' u=y:=⟨_,rfl⟩;have hcs:=(hr_cells HH.out.2.2.2 HH.out.2.2.1).2.2.2;obtain ⟨e0,e1,e2⟩:=hcs b bn;obtain ⟨f0,f1,f2⟩:=hcs u un;have fz:=(hr_cells HH.out.2.2.2 HH.out.2.2.1).1;clear hcs hp;rw [hx] at e0 e1 e2;rw [hy] at f0 f1 f2;have DONE:Aside (aheadB x y=false->HeapOn H'):=fun q=>HH.out.1.done (.inr (by rw [<-UE.out,hx,hy];exact aheadB_not.1 q))
   have STEP:Aside (aheadB x y=true->RiseOn (swp H' b u) u):=fun q=>by
    have:=HH.out.1.step (by rw [HH.out.2.2.1];exact bn) b0 (by rw [<-UE.out,hx,hy];exact aheadB_iff.1 q)
    rw [<-UE.out] at this;exact this
   have PRM:Aside ((swp H' b u).Perm H/\(swp H' b u).length=n):=⟨(swp_perm H' (by rw [HH.out.2.2.1];exact bn) (by rw [HH.out.2.2.1];exact un)).trans HH.out.2.1,by rw [swp_len];exact HH.out.2.2.1⟩
   have SWP:Aside (∀ W',HR 158 W' base (.slice (some ⟨g,0,none⟩) n cap) H'->_):=fun W' h=>swp_facts h HH.out.2.2.1 bn un (by omega) hx hy
   have AX:=AH.out x y;obtain ⟨ab,hab⟩:∃ ab,aheadB x y=ab:=⟨_,rfl⟩;rw [hab] at AX DONE STEP;obtain ⟨xk,xi,⟨xb,xo,xc,xl⟩⟩:=x;obtain ⟨yk,yi,⟨yb,yo,yc,yl⟩⟩:=y;simp only [Hd.v,Lst.v] at AX e2 f2;obtain ⟨xn,hxn⟩:∃ m,xl.length=m:=⟨_,rfl⟩;obtain ⟨yn,hyn⟩:∃ m,yl.length=m:=⟨_,rfl⟩;rw [hxn] at AX e2;rw [hyn] at AX f2;simp only [puth,Lst.v,hxn,hyn] at SWP;have AX':Hid _:=AX;have hbr:hb<wr.heap.size:=blkl hcell;have gr:g<wr.heap.size:=(hr_cells HH.out.2.2.2 HH.out.2.2.1).2.2.1;have HW:Hid (∀ w',Gw wr w'->Gw wr w'/\w'.cell? ⟨hb,1,none⟩=some (.slice (some ⟨g,0,none⟩) n cap)/\w'.cell? ⟨g,b*3,none⟩=some (.int .u64 xk)/\w'.cell? ⟨g,b*3+1,none⟩=some (.int .i64 (xi:Int))/\w'.cell? ⟨g,b*3+2,none⟩=some (.slice (some ⟨xb,xo,none⟩) xn xc)/\w'.cell? ⟨g,u*3,none⟩=some (.int .u64 yk)/\w'.cell? ⟨g,u*3+1,none⟩=some (.int .i64 (yi:Int))/\w'.cell? ⟨g,u*3+2,none⟩=some (.slice (some ⟨yb,yo,none⟩) yn yc)):=fun w' gg=>by
    have k:=fun o=>gg.cell g o gr
    exact ⟨gg,(gg.cell _ _ hbr).trans (blkc hcell rfl),(k _).trans e0,(k _).trans e1,(k _).trans e2,(k _).trans f0,(k _).trans f1,(k _).trans f2⟩
   clear hx hy hab hxn hyn AX e0 e1 e2 f0 f1 f2 hcell fz hu;obtain ⟨wS,hwS⟩:∃ wx,wx=wr:=⟨_,rfl⟩;subst hwS;go_wp2_with fail;rw [w2.out];go_region_held3 (fun w'=>Gw wS w'/\w'.cell? ⟨hb,1,none⟩=some (.slice (some ⟨g,0,none⟩) n cap)/\w'.cell? ⟨g,b*3,none⟩=some (.int .u64 xk)/\w'.cell? ⟨g,b*3+1,none⟩=some (.int .i64 (xi:Int))/\w'.cell? ⟨g,b*3+2,none⟩=some (.slice (some ⟨xb,xo,none⟩) xn xc)/\w'.cell? ⟨g,u*3,none⟩=some (.int .u64 yk)/\w'.cell? ⟨g,u*3+1,none⟩=some (.int .i64 (yi:Int))/\w'.cell? ⟨g,u*3+2,none⟩=some (.slice (some ⟨yb,yo,none⟩) yn yc))
    ((refine HW.out _ ?_;(repeat (first | exact Gw.refl _ | exact And.left (by assumption) | exact Hid.out (by assumption) | refine Gw.drew ?_ | refine Gw.drewN ?_ _));done))
    ((go_at_call 124;refine (AX'.out _).mono ?_;rintro ex u5 ⟨rfl,g5⟩;have G5:Hid (Gw wS u5):=Gw.trans (by repeat (first | exact Gw.refl _ | exact And.left (by assumption) | exact Hid.out (by assumption) | refine Gw.drew ?_ | refine Gw.drewN ?_ _)) g5;clear g5))
   obtain ⟨_,t0,t1,t2,t3,t4,t5,t6⟩:=HW.out u5 G5.out;have RX:Aside _:=hr_gw HH.out.2.2.2 G5.out;have GX:Aside _:=GG.out.tw G5.out;have fz:=(hr_cells RX.out HH.out.2.2.1).1;cases ab with
   | false =>
    have D:=DONE.out rfl;have DD:Aside _:=D;clear D DONE STEP HW SWP;go_wp2_with fail;refine bodyPost_ret (results_none rfl _ _ _) rfl ?_;exact ⟨rfl,⟨H',HH.out.2.1,DD.out,RX.out⟩,GX.out⟩
   | true =>
    have D:=STEP.out rfl;have DD:Aside _:=D;obtain ⟨W1,W2,E1,E2,RY,kp,fz',⟨r0,r1,r2⟩,g2⟩:=SWP.out u5 RX.out;have RYY:Aside _:=RY;have G2:Aside _:=GX.out.trans g2 (fun q hq=>.inl hq)
    have t0':W1.cell? ⟨hb,1,none⟩=some (.slice (some ⟨g,0,none⟩) n cap):=by
     have e:W1.heap[hb]?=u5.heap[hb]?:=kp hb (fun e=>gne e.symm)
     rw [World.cell?_of_block e];exact t0
    have fz0:=fz (b*3);have fz1:=fz (b*3+1);have fz2:=fz (b*3+2);have fz3:=fz' (u*3);have fz4:=fz' (u*3+1);have fz5:=fz' (u*3+2);clear fz fz' D DONE STEP HW SWP AX' kp RY g2;have gne':hb≠g:=fun e=>gne e.symm
    go_wp2_with fail;go_big_region
    go_wp2_with fail;go_roundg u
    case measure=>omega
    case rel=>exact ⟨u,swp H' b u,rfl,un,Nat.le_refl _,⟨DD.out,PRM.out.1,PRM.out.2,RYY.out⟩,(show Aside _ from G2.out.drew)⟩
  ·have b0':decide ((0:Int)<(b:Int))=false:=by simp;omega
   have DD:Aside _:=HH.out.1.done (.inl (by omega))
   go_wp2_with fail;go_end0
   exact ⟨rfl,⟨H',HH.out.2.1,DD.out,HH.out.2.2.2⟩,GG.out⟩
theorem sink_e {α:Type} (hb a n g cap base:Nat) (kf pv:Value) (H:List (Hd α)) (hn:H.length=n) (hn2:n<=4000000) (ha:a<=n) (w:World) (hp:Hpm 155 158 w hb base kf (.slice (some ⟨g,0,none⟩) n cap) pv H) (hR:SinkOn H a) :
  Calls prog 112 #[.pointer (some ⟨hb,0,none⟩),.int .i64 (a:Int)] w fun e w'=>e=.returned (.tuple #[])/\(∃ H',H'.Perm H/\HeapOn H'/\HR 158 w' base (.slice (some ⟨g,0,none⟩) n cap) H')/\Gx (fun q=>q=g) w w':=by
 obtain ⟨hh,hr,ne⟩:=hp;have gne:g≠hb:=ne g rfl;have HB:Aside _:=hh;have BL:Hid (∀ (a:Nat) (H:List (Hd α)) (W:World),H.length=n->a<=4000000->W.heap[hb]?=some (.cells #[kf,.slice (some ⟨g,0,none⟩) n cap,pv] 155 (0,0))->HR 158 W base (.slice (some ⟨g,0,none⟩) n cap) H->Calls prog 125 #[.pointer (some ⟨hb,0,none⟩),.int .i64 (a:Int)] W fun e w'=>(∃ d:Nat,e=.returned (.int .i64 (d:Int))/\BelowR H a d)/\Gw W w'):=fun a H W h1 h2 h3 h4=>below_e hb a n g cap base kf pv H h1 hn2 h2 W h3 h4
 have hbl:hb<w.heap.size:=blkl hh;have ncap:=(hr_cells hr hn).2.1;have R0:Aside _:=hr;have RI0:Aside _:=hR;have LN:Aside _:=hn;clear hh hr ne hR hn;go_enter func112,ntmps112;go_wp2_with fail;go_loopg [1] (n-a) (fun gg s1 wr=>∃ (b:Nat) (H':List (Hd α)),s1=.int .i64 (b:Int)/\b<=n/\n-b<=gg/\Aside (SinkOn H' b/\H'.Perm H/\H'.length=n/\HR 158 wr base (.slice (some ⟨g,0,none⟩) n cap) H')/\Aside (Gx (fun q=>q=g) w wr))
 case atStart=>exact ⟨a,H,rfl,ha,Nat.le_refl _,⟨RI0.out,List.Perm.refl _,LN.out,R0.out⟩,Gx.refl _ _⟩
 case round =>
  obtain ⟨b,H',rfl,bn,bg,HH,GG⟩:=hrel;have hcell:wr.heap[hb]?=some (.cells #[kf,.slice (some ⟨g,0,none⟩) n cap,pv] 155 (0,0)):=(GG.out.block _ hbl (fun e=>gne e.symm)).trans HB.out
  have HBr:Aside _:=hcell;clear hcell;go_wp2_with fail;refine (BL.out b H' _ HH.out.2.2.1 (by omega) HBr.out HH.out.2.2.2).mono ?_
  rintro ex u5 ⟨⟨d,rfl,hd⟩,g5⟩;have HD:Aside _:=hd;have RX:Aside _:=hr_gw HH.out.2.2.2 g5;have GX:Aside _:=GG.out.tw g5;have HB5:Aside (u5.heap[hb]?=some (.cells #[kf,.slice (some ⟨g,0,none⟩) n cap,pv] 155 (0,0))):=(g5.below.block _ (blkl HBr.out)).trans HBr.out;clear hd g5;by_cases db:d=b
  ·subst db
   have db':((d:Int) == (d:Int))=true:=by simp
   have DD:Aside (HeapOn H'):=HH.out.1.done (by
    rcases HD.out with q | q
    ·exact q.2
    ·exact absurd q.1 (Nat.lt_irrefl _))
   go_wp2_with fail;refine bodyPost_ret (results_none rfl _ _ _) rfl ?_
   exact ⟨rfl,⟨H',HH.out.2.1,DD.out,RX.out⟩,GX.out⟩
  ·have db':((d:Int) == (b:Int))=false:=by simp;omega
   have HD2:Aside (b<d/\d<H'.length/\(d-1)/2=b/\(gt H' d).lt (gt H' b)/\∀ c,0<c->c<H'.length->(c-1)/2=b->¬ (gt H' c).lt (gt H' d)):=by
    rcases HD.out with q | q
    ·exact absurd q.1 db
    ·exact q
   have dn:d<n:=by have:=HD2.out.2.1;rw [HH.out.2.2.1] at this;exact this
   have bd:b<d:=HD2.out.1;have bn':b<n:=by omega
   have DD:Aside _:=HH.out.1.step bd HD2.out.2.1 HD2.out.2.2.1 HD2.out.2.2.2.1 HD2.out.2.2.2.2;have PRM:Aside ((swp H' b d).Perm H/\(swp H' b d).length=n):=⟨(swp_perm H' (by rw [HH.out.2.2.1];exact bn') HD2.out.2.1).trans HH.out.2.1,by rw [swp_len];exact HH.out.2.2.1⟩
   obtain ⟨x,hx⟩:∃ x,gt H' b=x:=⟨_,rfl⟩;obtain ⟨y,hy⟩:∃ y,gt H' d=y:=⟨_,rfl⟩;have hcs:=(hr_cells RX.out HH.out.2.2.1).2.2.2;have fz:=(hr_cells RX.out HH.out.2.2.1).1;obtain ⟨e0,e1,e2⟩:=hcs b bn';obtain ⟨f0,f1,f2⟩:=hcs d dn;obtain ⟨W1,W2,E1,E2,RY,kp,fz',⟨r0,r1,r2⟩,g2⟩:=swp_facts RX.out HH.out.2.2.1 bn' dn (by omega) hx hy
   rw [hx] at e0 e1 e2;rw [hy] at f0 f1 f2;have RYY:Aside _:=RY;have G2:Aside _:=GX.out.trans g2 (fun q hq=>.inl hq)
   have t0:u5.cell? ⟨hb,1,none⟩=some (.slice (some ⟨g,0,none⟩) n cap):=blkc HB5.out rfl;have t0':W1.cell? ⟨hb,1,none⟩=some (.slice (some ⟨g,0,none⟩) n cap):=by
    have e:W1.heap[hb]?=u5.heap[hb]?:=kp hb (fun e=>gne e.symm)
    rw [World.cell?_of_block e];exact t0
   have fz0:=fz (b*3);have fz1:=fz (b*3+1);have fz2:=fz (b*3+2);have fz3:=fz' (d*3);have fz4:=fz' (d*3+1);have fz5:=fz' (d*3+2);obtain ⟨xk,xi,⟨xb,xo,xc,xl⟩⟩:=x;obtain ⟨yk,yi,⟨yb,yo,yc,yl⟩⟩:=y;simp only [puth,Lst.v] at e2 f2 E1 E2 r2;obtain ⟨xn,hxn⟩:∃ m,xl.length=m:=⟨_,rfl⟩;obtain ⟨yn,hyn⟩:∃ m,yl.length=m:=⟨_,rfl⟩;rw [hxn] at e2 E2;rw [hyn] at f2 E1 r2;clear fz fz' kp RY g2 hx hy hcs hxn hyn BL;have gne':hb≠g:=fun e=>gne e.symm
   go_wp2_with fail;go_big_region
   go_wp2_with fail;go_roundg (n-d)
   case measure=>omega
   case rel=>exact ⟨d,swp H' b d,rfl,by omega,Nat.le_refl _,⟨DD.out,PRM.out.1,PRM.out.2,RYY.out⟩,(show Aside _ from G2.out.drew)⟩
theorem pop_e {α:Type} (hb n g cap base:Nat) (kf pv:Value) (H:List (Hd α)) (hn:H.length=n) (h1:1<=n) (hn2:n<=4000000) (w:World) (hp:Hpm 155 158 w hb base kf (.slice (some ⟨g,0,none⟩) n cap) pv H) (hH:HeapOn H) :
  Calls prog 100 #[.pointer (some ⟨hb,0,none⟩)] w fun e w'=>e=.returned (gt H 0).v/\(∃ H',(gt H 0::H').Perm H/\HeapOn H'/\H'.length=n-1/\Hpm 155 158 w' hb base kf (.slice (some ⟨g,0,none⟩) (n-1) cap) pv H')/\Gx (fun q=>q=hb\/q=g) w w':=by
 obtain ⟨hh,hr,ne⟩:=hp;have gne:g≠hb:=ne g rfl;have gne':hb≠g:=fun e=>gne e.symm
 obtain ⟨m,hm⟩:∃ m:Nat,m=n-1:=⟨_,rfl⟩;have w1:IntKind.i64.wrap ((n:Int)-1)=(m:Int):=by rw [IntKind.wrap_i64];omega
 have hbl:hb<w.heap.size:=blkl hh;have gl:g<w.heap.size:=(hr_cells hr hn).2.2.1;have ncap:=(hr_cells hr hn).2.1;have mn:m<n:=by omega
 have mc:m<=cap:=by omega
 have cz:¬ cap=0:=by omega
 have HB:Aside _:=hh;have R0:Aside _:=hr;have LN:Aside (H.length=n):=hn;have MN:Aside (m=n-1):=hm;have c00:w.cell? ⟨hb,1,none⟩=some (.slice (some ⟨g,0,none⟩) n cap):=blkc hh rfl;obtain ⟨x,hx⟩:∃ x,gt H 0=x:=⟨_,rfl⟩;obtain ⟨y,hy⟩:∃ y,gt H m=y:=⟨_,rfl⟩;have HH:Aside (HeapOn H):=hH;have SK:Hid (∀ (H:List (Hd α)) (W:World),H.length=m->Hpm 155 158 W hb base kf (.slice (some ⟨g,0,none⟩) m cap) pv H->SinkOn H 0->Calls prog 112 #[.pointer (some ⟨hb,0,none⟩),.int .i64 0] W fun e w'=>e=.returned (.tuple #[])/\(∃ H',H'.Perm H/\HeapOn H'/\HR 158 w' base (.slice (some ⟨g,0,none⟩) m cap) H')/\Gx (fun q=>q=g) W w'):=fun H W h1 h2 h3=>sink_e hb 0 m g cap base kf pv H h1 (by omega) (Nat.zero_le _) W h2 h3
 have XV:Aside _:=hx;have YV:Aside _:=hy;obtain ⟨xk,xi,⟨xb,xo,xc,xl⟩⟩:=x;obtain ⟨yk,yi,⟨yb,yo,yc,yl⟩⟩:=y;obtain ⟨xn,hxn⟩:∃ m,xl.length=m:=⟨_,rfl⟩;obtain ⟨yn,hyn⟩:∃ m,yl.length=m:=⟨_,rfl⟩;have XN:Aside _:=hxn;have YN:Aside _:=hyn;have hcs:=(hr_cells hr hn).2.2.2;obtain ⟨e0,e1,e2⟩:=hcs 0 (by omega)
 rw [hx] at e0 e1 e2;simp only [Nat.zero_mul,Nat.zero_add,Lst.v,hxn] at e0 e1 e2;have RET:Aside ((gt H 0).v=.agg #[.int .u64 xk,.int .i64 (xi:Int),.slice (some ⟨xb,xo,none⟩) xn xc]):=by
  show _=_;rw [XV.out,<-XN.out];rfl
 rw [RET.out];clear hh hr ne hn hcs hx hy hxn hyn hH hm;go_enter func100,ntmps100;go_wp2_with fail;obtain ⟨N,hN⟩:∃ N,w.heap.size=N:=⟨_,rfl⟩;obtain ⟨W2,hW2⟩:∃ W2,(w.alloc (.cells #[.int .u64 0,.int .i64 0,.slice none 0 0] 158)).alloc (.cells #[.int .u64 xk,.int .i64 (xi:Int),.slice (some ⟨xb,xo,none⟩) xn xc] 158)=W2:=⟨_,rfl⟩;have G2:Aside (Gw w W2):=by rw [<-hW2];exact ((Gw.refl w).alloc _ _).alloc _ _
 have b0:W2.heap[N]?=some (.cells #[.int .u64 0,.int .i64 0,.slice none 0 0] 158 (0,0)):=by
  rw [<-hW2,<-hN];exact (heap_alloc_old _ _ (by simp)).trans (heap_alloc_new w _)
 have b1:W2.heap[N+1]?=some (.cells #[.int .u64 xk,.int .i64 (xi:Int),.slice (some ⟨xb,xo,none⟩) xn xc] 158 (0,0)):=by
  rw [<-hW2,<-hN];have:=heap_alloc_new (w.alloc (.cells #[.int .u64 0,.int .i64 0,.slice none 0 0] 158)) (.cells #[.int .u64 xk,.int .i64 (xi:Int),.slice (some ⟨xb,xo,none⟩) xn xc] 158);simpa using this
 have B0:Aside _:=b0;have B1:Aside _:=b1;rw [hW2,hN];have R2:=hr_gw R0.out G2.out;have HB2:=(G2.out.below.block _ hbl).trans HB.out;have n1:N+1<W2.heap.size:=blkl b1;obtain ⟨W3,W4,E3,E4,q1,q2,hp4,g4⟩:=cut_facts R2 LN.out h1 MN.out gne HB2 YV.out;have HP4:Aside _:=hp4;have G4:Aside (Gx (fun q=>q=hb\/q=g) w W4):=(G2.out.gx _).trans g4 (fun q hq=>.inl hq)
 have LT4:Aside (N+1<W4.heap.size/\W4.heap[N]?=some (.cells #[.int .u64 0,.int .i64 0,.slice none 0 0] 158 (0,0))/\W4.heap[N+1]?=some (.cells #[.int .u64 xk,.int .i64 (xi:Int),.slice (some ⟨xb,xo,none⟩) xn xc] 158 (0,0))) :=
  ⟨Nat.lt_of_lt_of_le n1 g4.size,(g4.block _ (by omega) (by omega)).trans b0,(g4.block _ n1 (by omega)).trans b1⟩
 have c2:W2.cell? ⟨hb,1,none⟩=some (.slice (some ⟨g,0,none⟩) n cap):=blkc HB2 rfl;have hcs:=(hr_cells R2 LN.out).2.2.2;have fz:=(hr_cells R2 LN.out).1;obtain ⟨f0,f1,f2⟩:=hcs m mn;obtain ⟨d0,d1,d2⟩:=hcs 0 (by omega)
 rw [XV.out] at d0 d1 d2;rw [YV.out] at f0 f1 f2;simp only [Nat.zero_mul,Nat.zero_add,Lst.v,XN.out] at d0 d1 d2;simp only [puth,Nat.zero_add,Lst.v,YN.out] at f2 E3;have fz0:=fz 0;have fz1:=fz 1;have fz2:=fz 2;have gN:Aside (g<N/\hb<N/\w.heap.size<=N):=⟨by omega,by omega,by omega⟩
 clear hW2 hN hcs fz R2 HB2 b0 b1 g4 hp4 e0 e1 e2 c00;go_wp2_with fail;go_big_region;go_wp2_with fail;refine (SK.out (cutL H) W4.drew (by rw [cutL_len,LN.out];exact MN.out.symm) ⟨HP4.out.blk,HP4.out.row,HP4.out.ne⟩ (HH.out.cut (by rw [LN.out];exact h1))).mono ?_
 rintro ex u6 ⟨rfl,⟨H',p1,p2,p3⟩,g6⟩;have PF:Aside ((gt H 0::H').Perm H/\HeapOn H'/\H'.length=n-1):=⟨((List.Perm.cons _ p1).trans (cutL_perm H (by rw [LN.out];exact h1)).symm),p2,by have:=p1.length_eq;rw [cutL_len,LN.out] at this;exact this⟩
 have g6':Gx (fun q=>q=g) W4 u6:=⟨g6.os,g6.tape,g6.output,g6.size,g6.block⟩
 have hl4:hb<W4.heap.size:=Nat.lt_of_lt_of_le hbl G4.out.size;have m1:u6.heap[N+1]?=some (.cells #[.int .u64 xk,.int .i64 (xi:Int),.slice (some ⟨xb,xo,none⟩) xn xc] 158 (0,0)):=(g6'.block _ LT4.out.1 (by have:=gN.out;omega)).trans LT4.out.2.2
 have m0:u6.heap[N]?=some (.cells #[.int .u64 0,.int .i64 0,.slice none 0 0] 158 (0,0)):=(g6'.block _ (by have:=LT4.out.1;omega) (by have:=gN.out;omega)).trans LT4.out.2.1
 have mb:u6.heap[hb]?=some (.cells #[kf,.slice (some ⟨g,0,none⟩) m cap,pv] 155 (0,0)):=(g6'.block _ hl4 gne').trans HP4.out.blk;have k0:=blkc (o:=0) m1 rfl;have k1:=blkc (o:=1) m1 rfl;have k2:=blkc (o:=2) m1 rfl;have j0:=blkc (o:=0) m0 rfl;have j1:=blkc (o:=1) m0 rfl;have j2:=blkc (o:=2) m0 rfl;have jf:=fun o=>blkf (o:=o) m0
 have jf0:=jf 0;have jf1:=jf 1;have jf2:=jf 2;have FIN:Aside (∀ W9,((u6.setCell ⟨N,0,none⟩ (.int .u64 xk)).setCell ⟨N,1,none⟩ (.int .i64 (xi:Int))).setCell ⟨N,2,none⟩ (.slice (some ⟨xb,xo,none⟩) xn xc)=W9->(∃ H',(gt H 0::H').Perm H/\HeapOn H'/\H'.length=n-1/\Hpm 155 158 W9 hb base kf (.slice (some ⟨g,0,none⟩) (n-1) cap) pv H')/\Gx (fun q=>q=hb\/q=g) w W9):=fun W9 e9=>by
  have nw:w.heap.size<=N:=gN.out.2.2;have kp:∀ q,q≠N->W9.heap[q]?=u6.heap[q]?:=fun q hq=>by
   rw [<-e9,Go.Deep.blk_setCell_other _ _ _ _ hq,Go.Deep.blk_setCell_other _ _ _ _ hq,Go.Deep.blk_setCell_other _ _ _ _ hq]
  refine ⟨⟨H',PF.out.1,PF.out.2.1,PF.out.2.2,⟨?_,?_,fun q hq=>by cases hq;exact gne⟩⟩,?_⟩
  ·rw [<-MN.out];exact (kp hb (by have:=gN.out;omega)).trans mb
  ·rw [<-MN.out];exact hr_keep p3 fun q hq=>kp q (by cases hq;show g≠N;have:=gN.out;omega)
  ·rw [<-e9]
   exact ((((G4.out.trans g6' (fun q hq=>.inl (.inr hq))).set (.inr nw) _ _).set (.inr nw) _ _).set (.inr nw) _ _)
 obtain ⟨W9,e9⟩:∃ W9,((u6.setCell ⟨N,0,none⟩ (.int .u64 xk)).setCell ⟨N,1,none⟩ (.int .i64 (xi:Int))).setCell ⟨N,2,none⟩ (.slice (some ⟨xb,xo,none⟩) xn xc)=W9:=⟨_,rfl⟩;have FF:Aside _:=FIN.out W9 e9;have b9:W9.heap[N]?=some (.cells #[.int .u64 xk,.int .i64 (xi:Int),.slice (some ⟨xb,xo,none⟩) xn xc] 158 (0,0)):=by
  rw [<-e9];have:=blk_set (o:=2) (blk_set (o:=1) (blk_set (o:=0) m0 (.int .u64 xk)) (.int .i64 (xi:Int))) (.slice (some ⟨xb,xo,none⟩) xn xc);simpa using this
 have y0:=blkc (o:=0) b9 rfl;have y1:=blkc (o:=1) b9 rfl;have y2:=blkc (o:=2) b9 rfl;clear FIN m0 m1 mb p1 p2 p3 g6 g6' jf b9 SK;go_wp2_with fail;refine bodyPost_ret (v:=.agg #[.int .u64 xk,.int .i64 (xi:Int),.slice (some ⟨xb,xo,none⟩) xn xc]) (by simp [results,results100,go_sem,y0,y1,y2]) rfl ⟨rfl,FF.out⟩
theorem info_he:(prog.info? 158).map (fun i=>(i.zero,i.size,i.bytes))=some (some (.agg #[.int .u64 0,.int .i64 0,.slice none 0 0]),3,40):=by kernel_rfl
theorem push_e (hb n base K i:Nat) (hv pv:Value) (H:List (Hd Ent)) (s:Lst Ent) (key:Ent->Int) (FK:FnK encE key Ent.ok K) (hn:H.length=n) (hn2:n<=3000000) (hi:i<=4000000) (w:World) (hp:Hpm 155 158 w hb base (.func (.func K) #[] #[]) hv pv H) (hb1:base<=hb+1) (hH:HeapOn H) (sl:s.l.length<=4000000) (ao:Option Addr) (sc:Nat) (hs:0<s.l.length->ao=some ⟨s.b,s.off,none⟩/\sc=s.c/\s.l.length<=s.c/\s.b<w.heap.size) (El:ElE w s) (okl:∀ x∈s.l,Ent.ok x) :
  Calls prog 99 #[.pointer (some ⟨hb,0,none⟩),.int .i64 (i:Int),.slice ao s.l.length sc] w fun e w'=>e=.returned (.tuple #[])/\(∃ hv' H',H'.Perm (H++hd1 key i s)/\HeapOn H'/\Hpm 155 158 w' hb base (.func (.func K) #[] #[]) hv' pv H'/\(∀ q,hv'.ownBlock=some q->hv.ownBlock=some q\/w.heap.size<=q))/\Gx (fun q=>q=hb\/hv.ownBlock=some q) w w':=by
 obtain ⟨sb,so,scc,l⟩:=s;cases l with
 | nil =>
  have HP:Aside _:=hp;have HH:Aside (HeapOn H):=hH;clear hp hH FK El okl hs;dsimp only [List.length_nil];go_enter func99,ntmps99;go_wp2_with fail;refine bodyPost_ret (results_none rfl _ _ _) rfl ?_;exact ⟨rfl,⟨hv,H,by simp [hd1],HH.out,HP.out,fun q hq=>.inl hq⟩,Gx.refl _ _⟩
 | cons x l =>
  obtain ⟨hao,hsc,hlc,hsb⟩:=hs (by simp)
  dsimp only at hao hsc hlc hsb sl El okl ⊢;subst hao hsc;clear hs;obtain ⟨m,hm⟩:∃ m,(x::l).length=m:=⟨_,rfl⟩;rw [hm];have m0:0<m:=by rw [<-hm];simp
  have ms:m<=4000000:=by rw [<-hm];exact sl
  have OK:Aside _:=okl x (List.mem_cons_self ..);have EL0:Aside _:=El;obtain ⟨hh,hr,ne⟩:=hp;have hbl:hb<w.heap.size:=blkl hh;have HB:Aside _:=hh;have R0:Aside _:=hr;have NE:Aside _:=ne;have LN:Aside _:=hn;have HH:Aside (HeapOn H):=hH;have XH:Aside ((⟨key x,i,⟨sb,so,sc,x::l⟩⟩:Hd Ent)=⟨key x,i,⟨sb,so,sc,x::l⟩⟩):=rfl;have HD:Aside (hd1 key i (⟨sb,so,sc,x::l⟩:Lst Ent)=[⟨key x,i,⟨sb,so,sc,x::l⟩⟩]):=rfl;obtain ⟨hx,HX⟩:∃ h:Hd Ent,Aside (h=⟨key x,i,⟨sb,so,sc,x::l⟩⟩):=⟨_,rfl⟩;obtain ⟨ii,hii,hz,hsz,hby⟩:=info_parts info_he;obtain ⟨kx,hkx⟩:∃ k,key x=k:=⟨_,rfl⟩;have KX:Aside _:=hkx;have NW:Hid (∀ W:World,∀ j u,(hd3 hx)[j]?=some u->(W.alloc (.cells #[.int .u64 kx,.int .i64 (i:Int),.slice (some ⟨sb,so,none⟩) m sc] 158)).cell? ((⟨W.heap.size,0,none⟩:Addr).add j)=some u):=fun W=>by
   have:=new_hd 158 W hx
   rw [HX.out] at this ⊢;rw [<-KX.out,<-hm];exact this
  have KC:Hid (∀ W:World,Calls prog K #[encE x] W fun e w'=>e=.returned (.int .u64 kx)/\Gw W w'):=fun W=>by
   have:=FK.tells W x OK.out
   rw [KX.out] at this;exact this
  have ENT:=FK.enter;have RS:Hid (∀ (m:Nat) (g cap:Nat) (H:List (Hd Ent)) (W:World),H.length=m+1->m+1<=4000000->Hpm 155 158 W hb base (.func (.func K) #[] #[]) (.slice (some ⟨g,0,none⟩) (m+1) cap) pv H->RiseOn H m->Calls prog 111 #[.pointer (some ⟨hb,0,none⟩),.int .i64 (m:Int)] W fun e w'=>e=.returned (.tuple #[])/\(∃ H',H'.Perm H/\HeapOn H'/\HR 158 w' base (.slice (some ⟨g,0,none⟩) (m+1) cap) H')/\Gx (fun q=>q=g) W w'):=fun m g cap H W h1 h2 h3 h4=>rise_e hb m (m+1) g cap base _ pv H h1 h2 (by omega) W h3 h4
  have c0:w.cell? ⟨hb,0,none⟩=some (.func (.func K) #[] #[]):=blkc hh rfl;have c1:w.cell? ⟨hb,1,none⟩=some hv:=blkc hh rfl;have APP:Hid (∀ (W:World) (v':Value) (w7:World),Gw w W->w7.ownsRow base 158 3 v' (n+1) (H.flatMap hd3++hd3 hx)->(W.alloc (.cells #[.int .u64 kx,.int .i64 (i:Int),.slice (some ⟨sb,so,none⟩) m sc] 158)).grownBy w7 hv.ownBlock->(v'.ownBlock=hv.ownBlock\/v'.ownBlock=some (W.heap.size+1)) ->
    (w7.heap[hb]?=some (.cells #[.func (.func K) #[] #[],hv,pv] 155 (0,0))/\hb<w7.heap.size)/\Hpm 155 158 (w7.setCell ⟨hb,1,none⟩ v') hb base (.func (.func K) #[] #[]) v' pv (H++[hx])/\Gx (fun q=>q=hb\/hv.ownBlock=some q) w (w7.setCell ⟨hb,1,none⟩ v')/\(∀ q,v'.ownBlock=some q->hv.ownBlock=some q\/w.heap.size<=q)):=fun W v' w7 gW r1 r2 r4=>by
   have b7:w7.heap[hb]?=some (.cells #[.func (.func K) #[] #[],hv,pv] 155 (0,0)):=(r2.block hb (by have:=gW.size;simp;omega) (fun e=>NE.out hb e.symm rfl)).trans ((heap_alloc_old _ _ (Nat.lt_of_lt_of_le hbl gW.size)).trans ((gW.below.block hb hbl).trans HB.out))
   have nv:∀ q,v'.ownBlock=some q->hv.ownBlock=some q\/w.heap.size<=q:=fun q hq=>by
    rcases r4 with e | e
    ·rw [e] at hq;exact .inl hq
    ·rw [e] at hq;cases hq;have:=gW.size;exact .inr (by omega)
   have ne':∀ q,v'.ownBlock=some q->q≠hb:=fun q hq=>by
    rcases nv q hq with e | e
    ·exact NE.out q e
    ·omega
   refine ⟨⟨b7,blkl b7⟩,⟨blk_set b7 _,?_,ne'⟩,?_,nv⟩
   ·refine hr_keep (hr_more (by rw [LN.out];exact r1)) fun q hq=>Go.Deep.blk_setCell_other _ _ _ _ (ne' q hq)
   ·exact (((gW.alloc _ _).gx _).grown r2 (fun q hq=>.inl (.inr hq))).set (.inl (Or.inl rfl)) _ _
  have OW:Hid (∀ W:World,Gw w W->∀ o:Obj,(W.alloc o).ownsRow base 158 3 hv n (H.flatMap hd3)):=fun W gW o=>by
   have:=hr_gw R0.out gW
   unfold HR at this;rw [LN.out] at this;exact this.alloc _
  have RI:Aside (RiseOn (H++[hx]) n):=by
   have:=HH.out.app hx
   rw [LN.out] at this;exact this
  have FIN:Hid (∀ (b8 cap8:Nat) (W8 u9:World) (H':List (Hd Ent)),Hpm 155 158 W8 hb base (.func (.func K) #[] #[]) (.slice (some ⟨b8,0,none⟩) (n+1) cap8) pv (H++[hx])->Gx (fun q=>q=hb\/hv.ownBlock=some q) w W8->(∀ q,(Value.slice (some ⟨b8,0,none⟩) (n+1) cap8).ownBlock=some q->hv.ownBlock=some q\/w.heap.size<=q)->H'.Perm (H++[hx])->HeapOn H'->HR 158 u9 base (.slice (some ⟨b8,0,none⟩) (n+1) cap8) H'->Gx (fun q=>q=b8) W8 u9 ->
    (∃ hv' H',H'.Perm (H++[hx])/\HeapOn H'/\Hpm 155 158 u9 hb base (.func (.func K) #[] #[]) hv' pv H'/\(∀ q,hv'.ownBlock=some q->hv.ownBlock=some q\/w.heap.size<=q))/\Gx (fun q=>q=hb\/hv.ownBlock=some q) w u9):=fun b8 cap8 W8 u9 H' h1 h2 h3 h4 h5 h6 h7=>by
   have hne:=h1.ne b8 rfl;refine ⟨⟨_,H',h4,h5,⟨(h7.block hb (blkl h1.blk) (fun e=>hne e.symm)).trans h1.blk,h6,h1.ne⟩,h3⟩,h2.trans h7 (fun q hq=>?_)⟩
   have hq':q=b8:=hq;subst hq';rcases h3 q rfl with e | e
   ·exact .inl (.inr e)
   ·exact .inr e
  rw [show hd1 key i (⟨sb,so,sc,x::l⟩:Lst Ent)=[hx] by rw [HX.out];rfl]
  obtain ⟨xk,xv,xg⟩:=x;simp only [encE] at KC;obtain ⟨d0,d1,d2⟩:w.cell? ⟨sb,so,none⟩=some (.int .u64 xk)/\w.cell? ⟨sb,so+1,none⟩=some (.int .u64 xv)/\w.cell? ⟨sb,so+2,none⟩=some (.bool xg):=by
   have:=EL0.out 0 _ rfl
   simpa using this
  have HL:Aside ((H++[hx]).length=n+1):=by show _=_;rw [List.length_append,LN.out];rfl
  clear hh hr ne hn hH El okl sl hkx EL0 R0 NE;go_enter func99,ntmps99;have t0:((m:Int) == 0)=false:=by simp;omega
  have nl1:IntKind.i64.wrap (((n+1:Nat):Int)-1)=(n:Int):=by rw [IntKind.wrap_i64];omega
  have nl2:IntKind.i64.wrap ((n:Int)+1-1)=(n:Int):=by rw [IntKind.wrap_i64];omega
  clear hm;go_wp2_with fail;go_region_law (first
   | (go_simp;refine (KC.out _).mono ?_;rintro e w4 ⟨rfl,g4⟩;have G4:Hid (Gw w w4):=((Gw.refl w).drew.trans g4);have k4:w4.cell? ⟨hb,1,none⟩=some hv:=(g4.cell _ _ hbl).trans c1;have l4:hb<w4.heap.size:=Nat.lt_of_lt_of_le hbl g4.size;clear g4)
   | (refine step_app _ rfl (.tmp 13) (.tmp 25) 153 rfl base 158 ii (.agg #[.int .u64 0,.int .i64 0,.slice none 0 0]) 3 40 underlying153 hii hz hsz hby rfl (by decide) hv n (H.flatMap hd3) (by simp [Act.eval]) (OW.out w4 G4.out _) ⟨w4.heap.size,0,none⟩ 1 1 (hd3 hx) (by simp [Act.eval]) rfl (NW.out w4) (hd3_one hx) (by simp only [maxLen];omega) (by omega) (Nat.le_trans (show base<=w4.heap.size by omega) ((Gw.refl w4).alloc _ _).size) ?_;intro v' w7 r1 r2 r3 r4;obtain ⟨b8,cap8,ev,_,_,_⟩:=own_slice r1 (by simpa using r3);obtain ⟨⟨B7,l7⟩,P7,G7,N7⟩:=APP.out w4 v' w7 G4.out r1 r2 (by simpa using r4);have k7:=blkc (o:=1) B7 rfl;have f7:=blkf (o:=1) B7;have P8:Hid _:=P7;have G8:Hid _:=G7;have N8:Hid _:=N7;clear B7 P7 G7 N7 r1 r2 r3 r4;subst ev))
  all_goals go_wp2_with fail
  all_goals refine (RS.out n b8 cap8 (H++[hx]) _ HL.out (by omega) P8.out RI.out).mono ?_
  all_goals rintro ex u9 ⟨rfl,⟨H',p1,p2,p3⟩,g9⟩
  all_goals have FF:Aside _:=FIN.out b8 cap8 _ u9 H' P8.out G8.out N8.out p1 p2 p3 g9
  all_goals clear p1 p2 p3 g9
  all_goals go_wp2_with fail
  all_goals go_end0
  all_goals exact ⟨rfl,FF.out⟩
theorem next_e (hb K:Nat) (hv pv:Value) (H P:List (Hd Ent)) (key:Ent->Int) (FK:FnK encE key Ent.ok K) (hn2:H.length<=3000000) (hp2:P.length<=3000000) (w:World) (hst:Hst 155 158 w hb (.func (.func K) #[] #[]) hv pv H P) (hH:HeapOn H)
  (me:∀ h∈H,(∃ x t,h.s.l=x::t/\h.k=key x)/\h.s.b<hb/\h.s.l.length<=h.s.c/\h.s.l.length<=4000000/\h.i<=4000000/\ElE w h.s/\∀ x∈h.s.l,Ent.ok x) :
  Calls prog 91 #[.pointer (some ⟨hb,0,none⟩)] w fun e w'=>NextR 155 158 w hb K 3 hv pv H key encE (.agg #[.int .u64 0,.int .u64 0,.bool false]) e w':=by
 by_cases h0:H=[]
 ·subst h0
  have hbl:hb<w.heap.size:=blkl hst.hp.blk;have c1:w.cell? ⟨hb,1,none⟩=some hv:=blkc hst.hp.blk rfl;rcases hr_len hst.hp.row with ⟨e,_⟩ | ⟨g,cap,e,hcap⟩
  all_goals
   subst e;clear hst hH me FK;go_enter func91,ntmps91;go_wp2_with fail;refine bodyPost_ret (v:=.tuple #[.agg #[.int .u64 0,.int .u64 0,.bool false],.bool false]) (by simp [results,results91,go_sem]) rfl ?_
   exact ⟨fun _=>⟨rfl,by first | exact ((Gw.refl w).alloc _ _).alloc _ _ | exact (((Gw.refl w).alloc _ _).alloc _ _).setCell (by simp) _⟩,fun h=>absurd rfl h⟩
 ·have hpos:0<H.length:=List.length_pos_iff.2 h0
  have gm:gt H 0∈H:=by
   have:gt H 0=H[0]:=by simp [gt,List.getD,hpos]
   rw [this];exact List.getElem_mem _
  have ME:Aside _:=me;obtain ⟨⟨x,t,hxl,hxk⟩,xbl,xcl,_,_,xel,xok⟩:=me (gt H 0) gm;obtain ⟨g,cap,hvf,ncap,gb,gl⟩:=hr_form hst.hp.row hpos;obtain ⟨n,hn⟩:∃ n,H.length=n:=⟨_,rfl⟩;have LN:Aside _:=hn;rw [hn] at hvf ncap hpos hn2;subst hvf;have ST:Aside _:=hst;have HH:Aside _:=hH;have hbl:hb<w.heap.size:=blkl hst.hp.blk;have c1:w.cell? ⟨hb,1,none⟩=some (.slice (some ⟨g,0,none⟩) n cap):=blkc hst.hp.blk rfl;have c2:w.cell? ⟨hb,2,none⟩=some pv:=blkc hst.hp.blk rfl;have fr2:w.frozen? ⟨hb,2,none⟩=false:=blkf hst.hp.blk;obtain ⟨y,hy⟩:∃ y,gt H 0=y:=⟨_,rfl⟩;have YV:Aside _:=hy;obtain ⟨e0,e1,e2⟩:=(hr_cells hst.hp.row hn).2.2.2 0 hpos;rw [hy] at e0 e1 e2 hxl hxk;obtain ⟨yk,yi,⟨yb,yo,yc,yl⟩⟩:=y;dsimp only at hxl hxk;obtain ⟨yn,hyn⟩:∃ m,yl.length=m:=⟨_,rfl⟩;have YN:Aside _:=hyn;simp only [Nat.zero_mul,Nat.zero_add,Lst.v,hyn] at e0 e1 e2;have YL:Aside _:=hxl;have YK:Aside _:=hxk;have tn:((n:Int) == 0)=false:=by simp;omega
  obtain ⟨po,pc,SL,R0,OB⟩:∃ (po:Option Addr) (pc:Nat),(∀ W:World,(Instr.slice 153 pv none (some (.int .i64 0)) none).run prog W=.ok (.slice po 0 pc) W)/\HR 158 w (hb+1) (.slice po 0 pc) ([]:List (Hd Ent))/\(Value.slice po 0 pc).ownBlock=pv.ownBlock:=by
   rcases hr_len hst.pr with ⟨e,_⟩ | ⟨gp,cp,e,hcp⟩
   ·subst e
    exact ⟨none,0,fun W=>by kernel_rfl,hr_nil _ _ _,rfl⟩
   ·have pr:=hst.pr
    subst e;refine ⟨some ⟨gp,0,none⟩,cp,fun W=>?_,hr_take pr rfl 0 (Nat.zero_le _),rfl⟩
    have c0:(0:Int)<=(cp:Int):=by omega
    by_cases z:cp=0
    ·subst z;simp [go_sem,Instr.slice]
    ·simp [go_sem,Instr.slice]
  obtain ⟨N5,hN5⟩:∃ N,N=w.heap.size+1:=⟨_,rfl⟩;obtain ⟨W5,E5⟩:∃ W5,(w.alloc (.cells #[.int .u64 0,.int .u64 0,.bool false] 69)).alloc (.cells #[.int .u64 yk,.int .i64 (yi:Int),.slice (some ⟨yb,yo,none⟩) yn yc] 158)=W5:=⟨_,rfl⟩;have G5:Gw w W5:=by rw [<-E5];exact ((Gw.refl w).alloc _ _).alloc _ _
  have B5:W5.heap[N5]?=some (.cells #[.int .u64 yk,.int .i64 (yi:Int),.slice (some ⟨yb,yo,none⟩) yn yc] 158 (0,0)):=by
   rw [<-E5,hN5]
   first
    | exact heap_alloc_new _ _
    | (have:=heap_alloc_new (w.alloc (.cells #[.int .u64 0,.int .u64 0,.bool false] 69)) (.cells #[.int .u64 yk,.int .i64 (yi:Int),.slice (some ⟨yb,yo,none⟩) yn yc] 158);simpa using this)
  have B2:W5.heap[w.heap.size]?=some (.cells #[.int .u64 0,.int .u64 0,.bool false] 69 (0,0)):=by
   rw [<-E5];exact (heap_alloc_old _ _ (by simp)).trans (heap_alloc_new w _)
  have n5:N5<W5.heap.size:=blkl B5;have hb5:W5.heap[hb]?=some (.cells #[.func (.func K) #[] #[],.slice (some ⟨g,0,none⟩) n cap,pv] 155 (0,0)):=(G5.below.block _ hbl).trans ST.out.hp.blk;obtain ⟨W6,E6⟩:∃ W6,W5.setCell ⟨hb,2,none⟩ (.slice po 0 pc)=W6:=⟨_,rfl⟩;have A0:Aside (NxA 155 158 w W6 hb g cap (.func (.func K) #[] #[]) pv H yk n (.slice po 0 pc) H [] W6):=by
   have hne:∀ q,q≠hb->W6.heap[q]?=W5.heap[q]?:=fun q hq=>by rw [<-E6];exact Go.Deep.blk_setCell_other _ _ _ _ hq
   have s6:W6.heap.size=W5.heap.size:=by rw [<-E6];simp [World.setCell]
   have gne:g≠hb:=ST.out.hp.ne g rfl;have glt:=(hr_lt ST.out.hp.row g rfl).2;have plt:∀ q,pv.ownBlock=some q->q<w.heap.size:=fun q hq=>(hr_lt ST.out.pr q hq).2
   have pne:=ST.out.pne;refine ⟨⟨⟨?_,?_,ST.out.hp.ne⟩,?_,fun q hq hq'=>ST.out.ap q hq (by rw [<-OB];exact hq')⟩,LN.out,by simp,(fun p hp=>by cases hp),HH.out,fun q hq=>.inl (by rw [<-OB];exact hq),fun _ _ _=>rfl,?_,⟨by rw [s6];exact G5.size,Nat.le_refl _⟩,⟨glt,hbl,gne,plt⟩⟩
   ·rw [<-E6];exact blk_set hb5 _
   ·exact hr_keep ST.out.hp.row fun q hq=>by cases hq;exact (hne g gne).trans (G5.below.block g glt)
   ·exact hr_keep R0 fun q hq=>by rw [OB] at hq;exact (hne q (pne q hq)).trans (G5.below.block q (plt q hq))
   ·rw [<-E6];exact (G5.gx _).set (.inl (Or.inl rfl)) _ _
  have BX:Aside (∀ W:World,(∀ q,w.heap.size<=q->q<W6.heap.size->W.heap[q]?=W6.heap[q]?)->W.heap[N5]?=some (.cells #[.int .u64 yk,.int .i64 (yi:Int),.slice (some ⟨yb,yo,none⟩) yn yc] 158 (0,0))/\W.heap[w.heap.size]?=some (.cells #[.int .u64 0,.int .u64 0,.bool false] 69 (0,0))):=fun W hW=>by
   have s6:W6.heap.size=W5.heap.size:=by rw [<-E6];simp [World.setCell]
   have hne:∀ q,q≠hb->W6.heap[q]?=W5.heap[q]?:=fun q hq=>by rw [<-E6];exact Go.Deep.blk_setCell_other _ _ _ _ hq
   exact ⟨(hW N5 (by omega) (by omega)).trans ((hne N5 (by omega)).trans B5),(hW _ (Nat.le_refl _) (by omega)).trans ((hne _ (by omega)).trans B2)⟩
  have W6L:Aside (w.heap.size<W6.heap.size):=by
   have s6:W6.heap.size=W5.heap.size:=by rw [<-E6];simp [World.setCell]
   show _<_;omega
  have k1:W5.cell? ⟨hb,1,none⟩=some (.slice (some ⟨g,0,none⟩) n cap):=blkc hb5 rfl;have k2:W5.cell? ⟨hb,2,none⟩=some pv:=blkc hb5 rfl;have k3:W5.frozen? ⟨hb,2,none⟩=false:=blkf hb5;have l5:hb<W5.heap.size:=blkl hb5;have EXI:Hid (∀ n1 pv1 H1 P1 wr,NxA 155 158 w W6 hb g cap (.func (.func K) #[] #[]) pv H yk n1 pv1 H1 P1 wr->(n1=0\/(gt H1 0).k≠yk)->0<P1.length/\∀ x∈H1,x.k≠yk):=fun n1 pv1 H1 P1 wr h ex=>h.exit HH.out (by rw [LN.out];exact hpos) (by rw [YV.out]) ex
  have POP:Hid (∀ (n1:Nat) (pv1:Value) (H1 P1:List (Hd Ent)) (wr:World),NxA 155 158 w W6 hb g cap (.func (.func K) #[] #[]) pv H yk n1 pv1 H1 P1 wr->1<=n1->n1<=3000000->Calls prog 100 #[.pointer (some ⟨hb,0,none⟩)] wr fun e w'=>e=.returned (gt H1 0).v/\(∃ H',(gt H1 0::H').Perm H1/\HeapOn H'/\H'.length=n1-1/\Hpm 155 158 w' hb (hb+1) (.func (.func K) #[] #[]) (.slice (some ⟨g,0,none⟩) (n1-1) cap) pv1 H')/\Gx (fun q=>q=hb\/q=g) wr w'):=fun n1 pv1 H1 P1 wr h h1 h2=>pop_e hb n1 g cap (hb+1) _ pv1 H1 h.ln h1 (by omega) wr h.st.hp h.ho
  have NLE:Hid (∀ n1 pv1 H1 P1 wr,NxA 155 158 w W6 hb g cap (.func (.func K) #[] #[]) pv H yk n1 pv1 H1 P1 wr->P1.length+n1=n):=fun n1 pv1 H1 P1 wr h=>by
   have:=h.pm.length_eq
   rw [List.length_append,LN.out,h.ln] at this;exact this
  obtain ⟨ii,hii,hz,hsz,hby⟩:=info_parts info_he;subst hN5;clear hst hH me h0 hn hy hyn hxl hxk gm R0 OB B5 hb5 G5 n5;go_enter func91,ntmps91;go_upto_block 0 with fail;clear E5 E6 k1 k2 k3 l5 SL c1 c2 fr2 e0 e1 e2 tn;go_cut [] from 29 to 57 (fun wc=>∃ (n1:Nat) (pv1:Value) (H1 P1:List (Hd Ent)),Aside (NxA 155 158 w W6 hb g cap (.func (.func K) #[] #[]) pv H yk n1 pv1 H1 P1 wc)/\Aside (0<P1.length/\∀ x∈H1,x.k≠yk))
  case first=>as_aux_lemma =>
   go_wp2_with fail;go_loopg [] n (fun gg wr=>∃ (n1:Nat) (pv1:Value) (H1 P1:List (Hd Ent)),n1<=gg/\n1<=n/\Aside (NxA 155 158 w W6 hb g cap (.func (.func K) #[] #[]) pv H yk n1 pv1 H1 P1 wr))
   case atStart=>exact ⟨n,.slice po 0 pc,H,[],Nat.le_refl _,Nat.le_refl _,A0⟩
   case round =>
    obtain ⟨n1,pv1,H1,P1,ng,nn,AA⟩:=hrel;obtain ⟨wS,hwS⟩:∃ wx,wx=wr:=⟨_,rfl⟩;subst hwS;have c1:wS.cell? ⟨hb,1,none⟩=some (.slice (some ⟨g,0,none⟩) n1 cap):=blkc AA.out.st.hp.blk rfl;have c2:wS.cell? ⟨hb,2,none⟩=some pv1:=blkc AA.out.st.hp.blk rfl;have f0:=blkc (o:=0) ((BX.out _ AA.out.bx).1) rfl;have ncap1:n1<=cap:=(hr_cells AA.out.st.hp.row AA.out.ln).2.1;by_cases p0:0<n1
    ·have p0':decide ((0:Int)<(n1:Int))=true:=by simpa using p0
     obtain ⟨z,hz0⟩:∃ z,gt H1 0=z:=⟨_,rfl⟩;have ZV:Aside _:=hz0;obtain ⟨d0,d1,d2⟩:=(hr_cells AA.out.st.hp.row AA.out.ln).2.2.2 0 p0;rw [hz0] at d0 d1 d2;simp only [Nat.zero_mul,Nat.zero_add] at d0 d1 d2;have NW:=fun W=>new_hd 158 W z
     obtain ⟨zk,zi,⟨zb,zo,zc,zl⟩⟩:=z;obtain ⟨zn,hzn⟩:∃ m,zl.length=m:=⟨_,rfl⟩;have ZN:Aside _:=hzn;dsimp only at d0;by_cases zy:zk=yk
     ·have zy':(zk == yk)=true:=by simpa using zy
      obtain ⟨m1,hm1⟩:∃ m,m=n1-1:=⟨_,rfl⟩;have PO:Hid (∀ k:Nat,Calls prog 100 #[.pointer (some ⟨hb,0,none⟩)] (wS.drewN k) fun e w'=>e=.returned (.agg #[.int .u64 zk,.int .i64 (zi:Int),.slice (some ⟨zb,zo,none⟩) zn zc])/\(∃ H',(gt H1 0::H').Perm H1/\HeapOn H'/\H'.length=m1/\Hpm 155 158 w' hb (hb+1) (.func (.func K) #[] #[]) (.slice (some ⟨g,0,none⟩) m1 cap) pv1 H')/\Gx (fun q=>q=hb\/q=g) wS w'):=fun k=>by
       have:=POP.out n1 pv1 H1 P1 (wS.drewN k) (AA.out.drewN k) (by omega) (by omega)
       rw [ZV.out,<-hm1] at this;rw [ZV.out,<-ZN.out];exact this.mono fun e w' ⟨q1,q2,q3⟩=>⟨q1,q2,⟨q3.os,q3.tape,q3.output,q3.size,q3.block⟩⟩
      have APP:Hid (∀ (H2:List (Hd Ent)) (w4:World) (v':Value) (w7:World),(gt H1 0::H2).Perm H1->HeapOn H2->H2.length=m1->Hpm 155 158 w4 hb (hb+1) (.func (.func K) #[] #[]) (.slice (some ⟨g,0,none⟩) m1 cap) pv1 H2->Gx (fun q=>q=hb\/q=g) wS w4->w7.ownsRow (hb+1) 158 3 v' (P1.length+1) (P1.flatMap hd3++hd3 ⟨zk,zi,⟨zb,zo,zc,zl⟩⟩)->(w4.alloc (.cells #[.int .u64 zk,.int .i64 (zi:Int),.slice (some ⟨zb,zo,none⟩) zn zc] 158)).grownBy w7 pv1.ownBlock->(v'.ownBlock=pv1.ownBlock\/v'.ownBlock=some (w4.heap.size+1))->w7.heap[hb]?=some (.cells #[.func (.func K) #[] #[],.slice (some ⟨g,0,none⟩) m1 cap,pv1] 155 (0,0))/\NxA 155 158 w W6 hb g cap (.func (.func K) #[] #[]) pv H yk m1 v' H2 (P1++[gt H1 0]) (w7.setCell ⟨hb,2,none⟩ v')):=fun H2 w4 v' w7 a1 a2 a3 a4 a5 a6 a7 a8=>AA.out.step _ (by rw [ZV.out];exact zy) a1 a2 a3 a4 a5 (by rw [ZV.out];exact a6) a7 a8
      have PR:Hid (∀ (H2:List (Hd Ent)) (w4:World),Hpm 155 158 w4 hb (hb+1) (.func (.func K) #[] #[]) (.slice (some ⟨g,0,none⟩) m1 cap) pv1 H2->Gx (fun q=>q=hb\/q=g) wS w4->∀ o:Obj,(w4.alloc o).ownsRow (hb+1) 158 3 pv1 P1.length (P1.flatMap hd3)):=fun H2 w4 m4 g4 o=>by
       have r:HR 158 w4 (hb+1) pv1 P1:=hr_gx AA.out.st.pr g4 (fun q hq e=>by
        rcases e with e | e
        ·exact AA.out.st.pne q hq e
        ·exact AA.out.st.ap q (by rw [e];rfl) hq)
       exact World.ownsRow.alloc r _
      have NWH:Hid (∀ W:World,∀ j u,(hd3 (⟨zk,zi,⟨zb,zo,zc,zl⟩⟩:Hd Ent))[j]?=some u->(W.alloc (.cells #[.int .u64 zk,.int .i64 (zi:Int),.slice (some ⟨zb,zo,none⟩) zn zc] 158)).cell? ((⟨W.heap.size,0,none⟩:Addr).add j)=some u):=fun W=>by
       have:=NW W
       simp only [hzn] at this;exact this
      have pl:=NLE.out _ _ _ _ _ AA.out;have plb:P1.length<=3000000:=by omega
      have ml:m1<n1:=by omega
      clear pl NW hz0 hzn d1 d2 zy hm1;go_wp2_with fail;go_quiet (fail);go_wp2_with fail;go_region_law (first
       | (go_simp;refine (PO.out _).mono ?_;rintro e w4 ⟨rfl,⟨H2,q1,q2,q3,q4⟩,g4⟩;have Q1:Hid _:=q1;have Q2:Hid _:=q2;have Q3:Hid _:=q3;have Q4:Hid _:=q4;have GG4:Hid _:=g4;have k4:=blkc (o:=2) q4.blk rfl;have l4:hb<w4.heap.size:=blkl q4.blk;clear q1 q2 q3 q4 g4)
       | (refine step_app _ rfl (.tmp 51) (.tmp 54) 153 rfl (hb+1) 158 ii (.agg #[.int .u64 0,.int .i64 0,.slice none 0 0]) 3 40 underlying153 hii hz hsz hby rfl (by decide) pv1 P1.length (P1.flatMap hd3) (by simp [Act.eval]) (PR.out H2 w4 Q4.out GG4.out _) ⟨w4.heap.size,0,none⟩ 1 1 (hd3 (⟨zk,zi,⟨zb,zo,zc,zl⟩⟩:Hd Ent)) (by simp [Act.eval]) rfl (NWH.out w4) (hd3_one _) (by simp only [maxLen];omega) (by omega) (Nat.le_trans (show hb+1<=w4.heap.size by omega) ((Gw.refl w4).alloc _ _).size) ?_;intro v' w7 r1 r2 r3 r4;obtain ⟨b8,cap8,ev,_,_,_⟩:=own_slice r1 (by simpa using r3);obtain ⟨B7,A7⟩:=APP.out H2 w4 v' w7 Q1.out Q2.out Q3.out Q4.out GG4.out r1 r2 (by simpa using r4);have k7:=blkc (o:=2) B7 rfl;have f7:=blkf (o:=2) B7;have l7:=blkl B7;have A8:Hid _:=A7;clear B7 A7 r1 r2 r3 r4;subst ev))
      all_goals go_wp2_with fail
      all_goals go_roundg m1
      all_goals first
       | (case measure=>omega)
       | (case rel=>exact ⟨m1,_,H2,P1++[gt H1 0],Nat.le_refl _,by omega,(show Aside _ from A8.out)⟩)
     ·have zy':(zk == yk)=false:=by simpa using zy
      have EX:Aside _:=EXI.out _ _ _ _ _ AA.out (.inr (by rw [ZV.out];exact zy))
      clear NW hz0 hzn d1 d2 zy;go_wp2_with fail;go_quiet (fail);go_wp2_with fail;go_meet
      case rel=>exact ⟨n1,pv1,H1,P1,(show Aside _ from by first | exact AA.out.drew | exact AA.out.drewN _),EX⟩
    ·have p0':decide ((0:Int)<(n1:Int))=false:=by simp;omega
     have EX:Aside _:=EXI.out _ _ _ _ _ AA.out (.inl (by omega))
     go_wp2_with fail;go_quiet (fail)
     go_wp2_with fail;go_meet
     case rel=>exact ⟨n1,pv1,H1,P1,(show Aside _ from by first | exact AA.out.drew | exact AA.out.drewN _),EX⟩
  case rest=>as_aux_lemma =>
   obtain ⟨n1,pv1,H1,P1,AA,EX⟩:=hcut;obtain ⟨wA,hwA⟩:∃ wx,wx=wc:=⟨_,rfl⟩;subst hwA;clear EXI POP;have nle:=NLE.out _ _ _ _ _ AA.out;clear NLE A0;obtain ⟨gp,cp,epv,npc,_,_⟩:=hr_form AA.out.st.pr EX.out.1;subst epv;obtain ⟨np,hnp⟩:∃ m,P1.length=m:=⟨_,rfl⟩;have NP:Aside _:=hnp;have B0:Aside (NxB 155 158 w W6 hb g gp np cp 3 (.func (.func K) #[] #[]) (.slice (some ⟨g,0,none⟩) n cap) pv key H1 P1 0 (.slice (some ⟨g,0,none⟩) n1 cap) H1 wA):=by
    have:=AA.out.toB (sz:=3) (key:=key) (n:=n)
    rw [hnp] at this;exact this
   have c2:wA.cell? ⟨hb,2,none⟩=some (.slice (some ⟨gp,0,none⟩) np cp):=by rw [<-hnp];exact blkc AA.out.st.hp.blk rfl
   rw [hnp] at npc nle;have np0:0<np:=by have:=EX.out.1;rw [hnp] at this;exact this
   have OLD:Hid (∀ W,Gx (hpS hb (.slice (some ⟨g,0,none⟩) n cap) pv) w W->∀ q,q<hb->W.heap[q]?=w.heap[q]?):=fun W gg q hq=>gg.block q (by omega) (fun e=>by have:=(ST.out.lt e).1;omega)
   have PUS:Hid (∀ (j:Nat) (hv':Value) (Hc:List (Hd Ent)) (wr Wq:World) (ao:Option Addr) (sc pm:Nat),NxB 155 158 w W6 hb g gp np cp 3 (.func (.func K) #[] #[]) (.slice (some ⟨g,0,none⟩) n cap) pv key H1 P1 j hv' Hc wr->j<np->Gw wr Wq->(gt P1 j).s.l.length=pm+1->(0<pm->ao=some ⟨(gt P1 j).s.b,(gt P1 j).s.off+3,none⟩/\sc=(gt P1 j).s.c-1)->Calls prog 99 #[.pointer (some ⟨hb,0,none⟩),.int .i64 ((gt P1 j).i:Int),.slice ao pm sc] Wq fun e w'=>e=.returned (.tuple #[])/\∃ hv2 H2,NxB 155 158 w W6 hb g gp np cp 3 (.func (.func K) #[] #[]) (.slice (some ⟨g,0,none⟩) n cap) pv key H1 P1 (j+1) hv2 H2 w'):=fun j hv' Hc wr Wq ao sc pm hB jl gq hl hao=>by
    have jl':j<P1.length:=by rw [NP.out];exact jl
    have pmem:gt P1 j∈H:=AA.out.pm.mem_iff.1 (List.mem_append.2 (.inl (by
     have:gt P1 j=P1[j]:=by simp [gt,List.getD,jl']
     rw [this];exact List.getElem_mem _)))
    obtain ⟨_,m1,m2,m3,m4,m5,m6⟩:=ME.out _ pmem;have e1:(adv 3 (gt P1 j).s).l.length=pm:=by show (gt P1 j).s.l.tail.length=pm;rw [List.length_tail,hl];rfl
    have kb:Wq.heap[(gt P1 j).s.b]?=w.heap[(gt P1 j).s.b]?:=(gq.below.block _ (by have:=hB.sz;omega)).trans (OLD.out wr hB.gx _ m1)
    have few:=hB.few;have h1l:H1.length=n1:=AA.out.ln;have:=push_e hb Hc.length (hb+1) K (gt P1 j).i hv' _ Hc (adv 3 (gt P1 j).s) key FK rfl (by rw [NP.out] at few;omega) m4 Wq ⟨(gq.below.block _ (blkl hB.st.hp.blk)).trans hB.st.hp.blk,hr_gw hB.st.hp.row gq,hB.st.hp.ne⟩ (Nat.le_refl _) hB.ho (by rw [e1];omega) ao sc (fun h0=>by
     rw [e1] at h0;obtain ⟨z1,z2⟩:=hao h0;refine ⟨z1,z2,?_,?_⟩
     ·show (gt P1 j).s.l.tail.length<=(gt P1 j).s.c-1
      rw [List.length_tail];omega
     ·show (gt P1 j).s.b<_
      have:=gq.size;have:=hB.sz;omega) (m5.keep kb).adv (fun x hx=>m6 x (List.mem_of_mem_tail hx))
    rw [e1] at this;exact this.mono fun e w' ⟨q1,⟨hv2,H2,q2,q3,q4,q5⟩,q6⟩=>⟨q1,hv2,H2,hB.step jl' gq q2 q3 q4 q5 q6⟩
   have PIN:Aside (∀ p∈P1,p∈H):=fun p hp=>AA.out.pm.mem_iff.1 (List.mem_append.2 (.inl hp))
   have PPM:Aside _:=AA.out.pm;have PPK:Aside _:=AA.out.pk;clear hnp AA;go_wp2_with fail;go_loopg [63] np (fun gg s63 wr=>∃ (j:Nat) (hv':Value) (Hc:List (Hd Ent)),s63=.int .i64 (j:Int)/\j<=np/\np-j<=gg/\Aside (NxB 155 158 w W6 hb g gp np cp 3 (.func (.func K) #[] #[]) (.slice (some ⟨g,0,none⟩) n cap) pv key H1 P1 j hv' Hc wr))
   case atStart=>exact ⟨0,_,H1,rfl,Nat.zero_le _,by omega,B0⟩
   case round=>as_aux_lemma =>
    clear B0 c2;obtain ⟨j,hv',Hc,rfl,jn,jg,NB⟩:=hrel;obtain ⟨wS,hwS⟩:∃ wx,wx=wr:=⟨_,rfl⟩;subst hwS;by_cases jl:j<np
    ·have jl':(j:Int)<(np:Int):=by omega
     obtain ⟨d0,d1,d2⟩:=(hr_cells NB.out.st.pr NP.out).2.2.2 j jl;have jl2:j<P1.length:=by rw [NP.out];exact jl
     have pmem:gt P1 j∈P1:=by
      have:gt P1 j=P1[j]:=by simp [gt,List.getD,jl2]
      rw [this];exact List.getElem_mem _
     obtain ⟨z,hz0⟩:∃ z,gt P1 j=z:=⟨_,rfl⟩;have PU:=PUS.out j hv' Hc wS;have zme:=ME.out _ (PIN.out _ pmem);rw [hz0] at d0 d1 d2 PU zme;obtain ⟨zk,zi,⟨zb,zo,zc,zl⟩⟩:=z;obtain ⟨⟨x',t',zl0,_⟩,_,zcl,zle,_,_,_⟩:=zme;dsimp only at zl0 zcl zle;obtain ⟨zn,hzn⟩:∃ m,zl.length=m:=⟨_,rfl⟩;obtain ⟨pm,hpm⟩:∃ m,m=zn-1:=⟨_,rfl⟩;have zn0:0<zn:=by rw [<-hzn,zl0];simp
     simp only [Lst.v,hzn] at d0 d1 d2 zcl zle;obtain ⟨ao,sc,SLP,SAO⟩:∃ (ao:Option Addr) (sc:Nat),(∀ W:World,(Instr.slice 59 (.slice (some ⟨zb,zo,none⟩) zn zc) (some (.int .i64 1)) none none).run prog W=.ok (.slice ao pm sc) W)/\(0<pm->ao=some ⟨zb,zo+3,none⟩/\sc=zc-1):=by
      by_cases z1:zc=1
      ·have e1:zn=1:=by omega
       have e2:pm=0:=by omega
       subst z1 e1 e2;exact ⟨some ⟨zb,zo,none⟩,0,fun W=>by simp [go_sem,Instr.slice],fun h=>by omega⟩
      ·exact ⟨some ⟨zb,zo+3,none⟩,zc-1,fun W=>by (have zz:¬ ((zn:Int)<1):=by omega);simp [go_sem,Instr.slice,z1,hpm,zz],fun _=>⟨rfl,rfl⟩⟩
     have PU2:Hid (∀ Wq,Gw wS Wq->Calls prog 99 #[.pointer (some ⟨hb,0,none⟩),.int .i64 (zi:Int),.slice ao pm sc] Wq fun e w'=>e=.returned (.tuple #[])/\∃ hv2 H2,NxB 155 158 w W6 hb g gp np cp 3 (.func (.func K) #[] #[]) (.slice (some ⟨g,0,none⟩) n cap) pv key H1 P1 (j+1) hv2 H2 w'):=fun Wq gq=>PU Wq ao sc pm NB.out jl gq (by show zl.length=pm+1;omega) (fun h0=>SAO h0)
     obtain ⟨Wq,EQ⟩:∃ Wq,wS.alloc (.cells #[.int .u64 zk,.int .i64 (zi:Int),.slice (some ⟨zb,zo,none⟩) zn zc] 158)=Wq:=⟨_,rfl⟩;have GQ:Hid (Gw wS Wq):=by rw [<-EQ];exact (Gw.refl wS).alloc _ _
     have BQ:Wq.heap[wS.heap.size]?=some (.cells #[.int .u64 zk,.int .i64 (zi:Int),.slice (some ⟨zb,zo,none⟩) zn zc] 158 (0,0)):=by rw [<-EQ];exact heap_alloc_new _ _
     have q1:Wq.drew.cell? ⟨wS.heap.size,1,none⟩=some (.int .i64 (zi:Int)):=blkc (W:=Wq) BQ rfl;have q2:Wq.drew.cell? ⟨wS.heap.size,2,none⟩=some (.slice (some ⟨zb,zo,none⟩) zn zc):=blkc (W:=Wq) BQ rfl;clear PU PUS SAO hpm hzn zl0 hz0 BQ pmem;go_wp2_with fail;refine wp_region_still_tail 6 (by kernel_rfl) (by kernel_rfl) ?_
     change wpStill _ _ (World.drew Wq) (fun a'=>wpList _ _ _ _ a' (World.drew Wq)) _ _
     simp only [List.take_succ_cons,List.take_zero,List.drop_succ_cons,List.drop_zero]
     still_step
     still_step
     still_step
     still_step
     still_step
     still_step
     refine wpStill_nil ?_;go_wp2_with fail;refine (PU2.out _ GQ.out.drew).mono ?_;rintro ex u5 ⟨rfl,hv2,H2,nb5⟩;have NB5:Aside _:=nb5;clear nb5 PU2 q1 q2 EQ;go_wp2_with fail;go_roundg (np-(j+1))
     case measure=>omega
     case rel=>exact ⟨j+1,hv2,H2,by go_num,by omega,Nat.le_refl _,NB5⟩
    ·have ej:j=np:=by omega
     subst ej;have jl':¬ ((j:Int)<(j:Int)):=by omega
     clear PUS;have b5:=(BX.out _ NB.out.bx).1;have k2:=blkc (o:=2) b5 rfl;have yb0:0<yn:=by rw [<-YN.out,YL.out];simp
     have kb:wS.heap[yb]?=w.heap[yb]?:=OLD.out _ NB.out.gx _ (by rw [YV.out] at xbl;exact xbl)
     have xe:=xel.keep (w':=wS) (by rw [YV.out];exact kb)
     rw [YV.out] at xe;have PMF:Aside (Hc.Perm (H1++P1.flatMap (fun h=>hd1 key h.i (adv 3 h.s)))):=by
      have:=NB.out.pm
      rw [List.take_of_length_le (by rw [NP.out];exact Nat.le_refl _)] at this
      exact this
     have POST:Hid (∀ W9,Gx (fun q=>q=w.heap.size) wS W9->NextR 155 158 w hb K 3 (.slice (some ⟨g,0,none⟩) n cap) pv H key encE (.agg #[.int .u64 0,.int .u64 0,.bool false]) (.returned (.tuple #[encE x,.bool true])) W9):=fun W9 g9=>by
      obtain ⟨f1,f2,f3⟩:=NB.out.fin g9 W6L.out;refine ⟨fun e=>?_,fun _=>⟨x,t,hv',_,Hc,P1,H1,by rw [YV.out];exact YL.out,rfl,PPM.out,fun p hp=>by rw [YV.out];exact PPK.out p hp,fun p hp=>by rw [YV.out];exact EX.out.2 p hp,PMF.out,NB.out.ho,f1,f2,f3⟩⟩
      rw [e] at PPM;have:=PPM.out.length_eq;rw [List.length_append,NP.out] at this;simp at this;omega
     obtain ⟨xk,xv,xg⟩:=x;obtain ⟨r0,r1,r2⟩:wS.cell? ⟨yb,yo,none⟩=some (.int .u64 xk)/\wS.cell? ⟨yb,yo+1,none⟩=some (.int .u64 xv)/\wS.cell? ⟨yb,yo+2,none⟩=some (.bool xg):=by
      have:=xe 0 _ (by show yl[0]?=_;rw [YL.out];rfl)
      simpa using this
     have b2:=(BX.out _ NB.out.bx).2;obtain ⟨W9,E9⟩:∃ W9,((wS.setCell ⟨w.heap.size,0,none⟩ (.int .u64 xk)).setCell ⟨w.heap.size,1,none⟩ (.int .u64 xv)).setCell ⟨w.heap.size,2,none⟩ (.bool xg)=W9:=⟨_,rfl⟩;have b9:W9.heap[w.heap.size]?=some (.cells #[.int .u64 xk,.int .u64 xv,.bool xg] 69 (0,0)):=by
      rw [<-E9];have:=blk_set (o:=2) (blk_set (o:=1) (blk_set (o:=0) b2 (.int .u64 xk)) (.int .u64 xv)) (.bool xg);simpa using this
     have PO9:Aside _:=POST.out W9 (by rw [<-E9];exact (((Gx.refl (fun q=>q=w.heap.size) wS).set (.inl rfl) _ _).set (.inl rfl) _ _).set (.inl rfl) _ _)
     have j0:=blkc (o:=0) b2 rfl;have j1:=blkc (o:=1) b2 rfl;have j2:=blkc (o:=2) b2 rfl;have jf0:=blkf (o:=0) b2;have jf1:=blkf (o:=1) b2;have jf2:=blkf (o:=2) b2;have y0:=blkc (o:=0) b9 rfl;have y1:=blkc (o:=1) b9 rfl;have y2:=blkc (o:=2) b9 rfl;have lw:w.heap.size<wS.heap.size:=blkl b2;clear POST b2 b9;clear NB PMF xe b5 BX OLD;go_wp2_with fail;refine bodyPost_ret (v:=.tuple #[.agg #[.int .u64 xk,.int .u64 xv,.bool xg],.bool true]) (by simp [results,results91,go_sem,y0,y1,y2]) rfl PO9.out
theorem heapOf_e (K:Nat) (key:Ent->Int) (FK:FnK encE key Ent.ok K) (L:List (Lst Ent)) (ao:Option Addr) (c:Nat) (hL:L.length<=3000000) (w:World) (hv:LV w ao L) (hok:∀ s∈L,LOk Ent.ok w.heap.size s) (hel:∀ s∈L,s.l≠[]->ElE w s) :
  Calls prog 90 #[.func (.func K) #[] #[],.slice ao L.length c] w fun e w'=>e=.returned (.pointer (some ⟨w.heap.size,0,none⟩))/\(∃ hv H,Tl 155 158 (ElE) Ent.ok key L w.heap.size K [] L hv (.slice none 0 0) H [] w')/\Gw w w':=by
 obtain ⟨n,hn⟩:∃ n,L.length=n:=⟨_,rfl⟩;have LN:Aside _:=hn;rw [hn] at hL ⊢;have LVA:Aside _:=hv;obtain ⟨hb,hhb⟩:∃ hb,w.heap.size=hb:=⟨_,rfl⟩;have HBE:Aside _:=hhb;obtain ⟨W1,E1⟩:∃ W1,w.alloc (.cells #[.func (.func K) #[] #[],.slice none 0 0,.slice none 0 0] 155)=W1:=⟨_,rfl⟩;have G1:Aside (Gw w W1):=by rw [<-E1];exact (Gw.refl w).alloc _ _
 have B1:Aside (W1.heap[hb]?=some (.cells #[.func (.func K) #[] #[],.slice none 0 0,.slice none 0 0] 155 (0,0))):=by rw [<-E1,<-hhb];exact heap_alloc_new w _
 have PUS:Hid (∀ (i:Nat) (hi:i<n) (hv:Value) (H:List (Hd Ent)) (W:World) (bo:Option Addr) (sc:Nat),H.Perm (hds key 0 (L.take i))->HeapOn H->Hpm 155 158 W hb (hb+1) (.func (.func K) #[] #[]) hv (.slice none 0 0) H->Gw w W->(0<(L[i]'(by rw [LN.out];exact hi)).l.length->bo=some ⟨(L[i]'(by rw [LN.out];exact hi)).b,(L[i]'(by rw [LN.out];exact hi)).off,none⟩/\sc=(L[i]'(by rw [LN.out];exact hi)).c)->Calls prog 99 #[.pointer (some ⟨hb,0,none⟩),.int .i64 (i:Int),.slice bo (L[i]'(by rw [LN.out];exact hi)).l.length sc] W fun e w'=>e=.returned (.tuple #[])/\(∃ hv' H',H'.Perm (hds key 0 (L.take (i+1)))/\HeapOn H'/\Hpm 155 158 w' hb (hb+1) (.func (.func K) #[] #[]) hv' (.slice none 0 0) H')/\Gw w w'):=fun i hi hv H W bo sc h1 h2 h3 gW hbo=>by
  have hi':i<L.length:=by rw [LN.out];exact hi
  have sm:L[i]∈L:=List.getElem_mem hi';have few:H.length<=n:=by
   have e:=h1.length_eq;have:=hds_len (key:=key) (L.take i) 0;simp at this;omega
  have LO:=hok _ sm;have ne:0<L[i].l.length->L[i].l≠[]:=fun h0 e=>by rw [e] at h0;simp at h0
  have ln4:L[i].l.length<=4000000:=by
   rcases Nat.eq_zero_or_pos L[i].l.length with z | z
   ·omega
   ·exact (LO (ne z)).2.2.1
  have el:ElE W L[i]:=by
   rcases Nat.eq_zero_or_pos L[i].l.length with z | z
   ·intro k y hy
    rw [List.length_eq_zero_iff.1 z] at hy;simp at hy
   ·exact (hel _ sm (ne z)).keep (gW.below.block _ (LO (ne z)).1)
  refine (push_e hb H.length (hb+1) K i hv _ H L[i] key FK rfl (by omega) (by omega) W h3 (Nat.le_refl _) h2 ln4 bo sc (fun h0=>?_) el (fun y hy=>?_)).mono fun e w' ⟨q1,⟨hv',H',q2,q3,q4,q5⟩,q6⟩=>⟨q1,⟨hv',H',?_,q3,q4⟩,Gx.gw gW q6 (fun q hq=>?_)⟩
  ·obtain ⟨z1,z2⟩:=hbo h0
   exact ⟨z1,z2,(LO (ne h0)).2.1,Nat.lt_of_lt_of_le (LO (ne h0)).1 gW.size⟩
  ·have h0:0<L[i].l.length:=List.length_pos_of_mem hy
   exact (LO (ne h0)).2.2.2 y hy
  ·rw [List.take_add_one,List.getElem?_eq_getElem hi',Option.toList_some,hds_app]
   have e:0+(L.take i).length=i:=by simp;omega
   rw [e];refine q2.trans (List.Perm.append h1 ?_);simp [hds]
  ·have:=HBE.out
   rcases hq with x | x
   ·omega
   ·have:=(hr_lt h3.row q x).1;omega
 have CEL:Hid (∀ (i:Nat) (hi:i<n) (W:World),Gw w W->∃ b off bo sc,ao=some ⟨b,off,none⟩/\W.cell? ⟨b,off+i,none⟩=some (.slice bo (L[i]'(by rw [LN.out];exact hi)).l.length sc)/\(0<(L[i]'(by rw [LN.out];exact hi)).l.length->bo=some ⟨(L[i]'(by rw [LN.out];exact hi)).b,(L[i]'(by rw [LN.out];exact hi)).off,none⟩/\sc=(L[i]'(by rw [LN.out];exact hi)).c)):=fun i hi W gW=>by
  obtain ⟨b,off,e,hb',hc⟩:=(LVA.out.gw gW).cells (by rw [LN.out];omega)
  obtain ⟨bo,sc,q1,q2⟩:=hc i (by rw [LN.out];exact hi)
  exact ⟨b,off,bo,sc,e,q1,q2⟩
 have FIN:Hid (∀ (hv:Value) (H:List (Hd Ent)) (W:World),H.Perm (hds key 0 (L.take n))->HeapOn H->Hpm 155 158 W hb (hb+1) (.func (.func K) #[] #[]) hv (.slice none 0 0) H->Gw w W->Tl 155 158 (ElE) Ent.ok key L hb K [] L hv (.slice none 0 0) H [] W):=fun hv H W h1 h2 h3 gW=>by
  rw [List.take_of_length_le (by rw [LN.out];exact Nat.le_refl _)] at h1
  refine ⟨h1,h2,⟨h3,hr_nil _ _ _,fun q _ e=>by cases e⟩,fun s hs=>by have:=hok s hs;rw [HBE.out] at this;exact this,fun s hs ne=>(hel s hs ne).keep (gW.below.block _ (hok s hs ne).1),fun out ho=>by simpa using ho,rfl,by simp,by simp⟩
 clear hv hok hel hn FK hhb LVA;go_enter func90,ntmps90;rw [HBE.out];go_wp2_with fail;rw [HBE.out];go_loopg [13] n (fun gg s13 wr=>∃ (i:Nat) (hv:Value) (H:List (Hd Ent)),s13=.int .i64 (i:Int)/\i<=n/\n-i<=gg/\Aside (H.Perm (hds key 0 (L.take i))/\HeapOn H/\Hpm 155 158 wr hb (hb+1) (.func (.func K) #[] #[]) hv (.slice none 0 0) H)/\Aside (Gw w wr))
 case atStart=>exact ⟨0,.slice none 0 0,[],rfl,Nat.zero_le _,by omega,⟨by simp [hds],(fun i _ hi=>by simp at hi),⟨B1.out,hr_nil _ _ _,fun q e=>by cases e⟩⟩,G1⟩
 case round =>
  obtain ⟨i,hv,H,rfl,i1,i2,HH,GG⟩:=hrel;by_cases il:i<n
  ·have il':(i:Int)<(n:Int):=by omega
   obtain ⟨b,off,bo,sc,rfl,q1,q2⟩:=CEL.out i il wr GG.out;have PU:Hid _:=fun W gW=>PUS.out i il hv H W bo sc HH.out.1 HH.out.2.1 ⟨(gW.below.block _ (blkl HH.out.2.2.blk)).trans HH.out.2.2.blk,hr_gw HH.out.2.2.row gW,HH.out.2.2.ne⟩ (GG.out.trans gW) q2
   obtain ⟨ll,hll⟩:∃ ll,(L[i]'(by rw [LN.out];exact il)).l.length=ll:=⟨_,rfl⟩
   rw [hll] at q1 PU;clear q2 hll PUS;go_wp2_with fail;refine (PU.out wr (Gw.refl _)).mono ?_;rintro ex u5 ⟨rfl,⟨hv',H',p1,p2,p3⟩,g5⟩;have H5:Aside _:=And.intro p1 (And.intro p2 p3);have G5:Aside _:=g5;clear p1 p2 p3 g5 PU;go_wp2_with fail;go_roundg (n-(i+1))
   case measure=>omega
   case rel=>exact ⟨i+1,hv',H',by go_num,by omega,Nat.le_refl _,H5,G5⟩
  ·have ei:i=n:=by omega
   subst ei;have il':¬ ((i:Int)<(i:Int)):=by omega
   have FF:Aside _:=FIN.out hv H wr HH.out.1 HH.out.2.1 HH.out.2.2 GG.out;clear FIN PUS CEL;go_wp2_with fail;go_ret;exact ⟨rfl,⟨hv,H,FF.out⟩,GG.out⟩
structure Alv (w:World) (bx base:Nat) (va:Value) (o:List Ent):Prop where
 blk:w.heap[bx]?=some (.cells #[va] 59 (0,0))
 row:EO w base va o
 ne:∀ q,va.ownBlock=some q->q≠bx
theorem ent1 (bx base:Nat) (va:Value) (o:List Ent) (x:Ent) (w:World) (hb:base<=w.heap.size) (ho:o.length<=3000000) (h:Alv w bx base va o) :
  Calls prog 85 #[encE x,.pointer (some ⟨bx,0,none⟩)] w fun e w'=>e=.returned (.bool true)/\(∃ va',Alv w' bx base va' (o++[x])/\(∀ q,va'.ownBlock=some q->va.ownBlock=some q\/w.heap.size<=q))/\Gx (fun q=>q=bx\/va.ownBlock=some q) w w':=by
 obtain ⟨hk,hr,ne⟩:=h;obtain ⟨n,hn⟩:∃ n,o.length=n:=⟨_,rfl⟩;have LN:Aside _:=hn;rw [hn] at ho;have HB:Aside _:=hk;have R0:Aside _:=hr;have NE:Aside _:=ne;have bl:bx<w.heap.size:=blkl hk;have c0:w.cell? ⟨bx,0,none⟩=some va:=blkc hk rfl;obtain ⟨xk,xv,xg⟩:=x;simp only [encE];obtain ⟨ii,hii,hz,hsz,hby⟩:=info_parts info_e;obtain ⟨W1,E1⟩:∃ W1,w.alloc (.cells #[.int .u64 xk,.int .u64 xv,.bool xg] 69)=W1:=⟨_,rfl⟩;have G1:Aside (Gw w W1):=by rw [<-E1];exact (Gw.refl w).alloc _ _
 have b1:W1.heap[w.heap.size]?=some (.cells #[.int .u64 xk,.int .u64 xv,.bool xg] 69 (0,0)):=by rw [<-E1];exact heap_alloc_new w _
 have d0:=blkc (o:=0) b1 rfl;have d1:=blkc (o:=1) b1 rfl;have d2:=blkc (o:=2) b1 rfl;have k0:W1.cell? ⟨bx,0,none⟩=some va:=(G1.out.cell _ _ bl).trans c0;have l1:w.heap.size<W1.heap.size:=blkl b1;have OW:Aside ((W1.alloc (.cells #[.int .u64 xk,.int .u64 xv,.bool xg] 69)).ownsRow base 69 3 va n (o.flatMap ent3)):=by
  have:=eo_gw R0.out G1.out
  unfold EO at this;rw [LN.out] at this;exact this.alloc _
 have APP:Hid (∀ (v':Value) (w7:World),w7.ownsRow base 69 3 v' (n+1) (o.flatMap ent3++ent3 ⟨xk,xv,xg⟩)->(W1.alloc (.cells #[.int .u64 xk,.int .u64 xv,.bool xg] 69)).grownBy w7 va.ownBlock->(v'.ownBlock=va.ownBlock\/v'.ownBlock=some (W1.heap.size+1)) ->
   w7.heap[bx]?=some (.cells #[va] 59 (0,0))/\(∃ va',Alv (w7.setCell ⟨bx,0,none⟩ v') bx base va' (o++[⟨xk,xv,xg⟩])/\(∀ q,va'.ownBlock=some q->va.ownBlock=some q\/w.heap.size<=q))/\Gx (fun q=>q=bx\/va.ownBlock=some q) w (w7.setCell ⟨bx,0,none⟩ v')):=fun v' w7 r1 r2 r4=>by
  have s1:=G1.out.size;have b7:w7.heap[bx]?=some (.cells #[va] 59 (0,0)):=(r2.block bx (by simp;omega) (fun e=>NE.out bx e.symm rfl)).trans ((heap_alloc_old _ _ (by omega)).trans ((G1.out.below.block bx bl).trans HB.out))
  have nv:∀ q,v'.ownBlock=some q->va.ownBlock=some q\/w.heap.size<=q:=fun q hq=>by
   rcases r4 with e | e
   ·rw [e] at hq;exact .inl hq
   ·rw [e] at hq;cases hq;exact .inr (by omega)
  have ne':∀ q,v'.ownBlock=some q->q≠bx:=fun q hq=>by
   rcases nv q hq with e | e
   ·exact NE.out q e
   ·omega
  refine ⟨b7,⟨v',⟨blk_set b7 _,?_,ne'⟩,nv⟩,?_⟩
  ·exact eo_keep (eo_more (by rw [LN.out];exact r1)) fun q hq=>Go.Deep.blk_setCell_other _ _ _ _ (ne' q hq)
  ·exact ((((G1.out.alloc _ _).gx _).grown r2 (fun q hq=>.inl (.inr hq))).set (.inl (Or.inl rfl)) _ _)
 clear hk hr ne hn c0 b1 R0 NE HB;go_enter func85,ntmps85;go_wp2_with (at_builtin;refine wpList_append_own_at _ rfl _ _ 59 rfl base 69 ii (.agg #[.int .u64 0,.int .u64 0,.bool false]) 3 24 underlying59 hii hz hsz hby rfl (by decide) _ n _ rfl OW.out ⟨W1.heap.size,0,none⟩ 1 1 (ent3 ⟨xk,xv,xg⟩) rfl rfl (new_ent W1 ⟨xk,xv,xg⟩) (ent3_one _) (by simp only [maxLen];omega) (by omega) (by simp;omega) ?_)
 intro v' w7 r1 r2 r3 r4;obtain ⟨b8,cap8,ev,_,_,_⟩:=own_slice r1 (by simpa using r3)
 obtain ⟨B7,A7,G7⟩:=APP.out v' w7 r1 r2 (by simpa using r4)
 have k7:=blkc (o:=0) B7 rfl;have f7:=blkf (o:=0) B7;have l7:=blkl B7;have A8:Aside _:=And.intro A7 G7;clear B7 A7 G7 r1 r2 r3 r4 APP OW;subst ev;go_wp2_with fail;go_ret;exact ⟨rfl,A8.out.1,A8.out.2⟩
theorem keyOf_e:FnK encE Ent.k Ent.ok 84:=by
 refine ⟨fun args W=>rfl,fun W x _=>?_⟩
 obtain ⟨xk,xv,xg⟩:=x;simp only [encE];go_enter func84,ntmps84;go_wp2_with fail;go_ret;exact ⟨rfl,(Gw.refl W).alloc _ _⟩
structure TlF (w:World) (L:List (Lst Ent)) (hb bx:Nat) (told:List Ent) (Lc:List (Lst Ent)) (hv pv:Value) (H P:List (Hd Ent)) (va:Value) (wr:World):Prop where
 tl:Tl 155 158 ElE Ent.ok Ent.k L hb 84 told Lc hv pv H P wr
 al:Alv wr bx hb va told
 ap:∀ q,hpS hb hv pv q->va.ownBlock≠some q
 nb:∀ s∈Lc,s.l≠[]->s.b≠bx
 gx:Gx (fun q=>q=bx) w wr
 bl:bx<hb/\hb=w.heap.size/\hb<wr.heap.size
theorem TlF.next {w:World} {L:List (Lst Ent)} {hb bx:Nat} {told:List Ent} {Lc:List (Lst Ent)} {hv pv:Value} {H P:List (Hd Ent)} {va:Value} {wr w':World} {zero:Value} {e:Ending} (h:TlF w L hb bx told Lc hv pv H P va wr) (ne:H≠[]) (r:NextR 155 158 wr hb 84 3 hv pv H Ent.k encE zero e w') :
  ∃ x Lc' hv' pv' H' P',e=.returned (.tuple #[encE x,.bool true])/\sizes (Lc'.map Lst.l)<sizes (Lc.map Lst.l)/\w.heap.size<=w'.heap.size/\Alv w' bx hb va told/\told.length<sizes (L.map Lst.l)/\∀ w4 w5 va',Gw w' w4->Alv w5 bx hb va' (told++[x])->(∀ q,va'.ownBlock=some q->va.ownBlock=some q\/w4.heap.size<=q)->Gx (fun q=>q=bx\/va.ownBlock=some q) w4 w5->TlF w L hb bx (told++[x]) Lc' hv' pv' H' P' va' w5:=by
 obtain ⟨x,Lc',hv',pv',H',P',r1,r2,r3,r4,r5,r6,r7⟩:=h.tl.next elpE h.bl.2.2 ne r;have hbl:=h.bl;have s1:=r5.size;have nbx:¬ hpS hb hv pv bx:=fun e=>by have:=(h.tl.st.lt e).1;omega
 have al':Alv w' bx hb va told:=⟨(r5.block bx (blkl h.al.blk) nbx).trans h.al.blk,eo_keep h.al.row fun q hq=>r5.block q (World.ownsRow.lt h.al.row q hq).2 (fun e=>h.ap q e hq),h.al.ne⟩
 have tn:=r3.tn;have g0:Gx (fun q=>q=bx) w w':=h.gx.trans r5 (fun q hq=>.inr (by have:=(h.tl.st.lt hq).1;omega))
 have nb':∀ s∈Lc',s.l≠[]->s.b≠bx:=fun s hs ns=>by
  obtain ⟨s0,q1,q2,q3⟩:=r7 s hs ns;rw [q3];exact h.nb s0 q1 q2
 have ap':∀ q,hpS hb hv' pv' q->va.ownBlock≠some q:=fun q hq e=>by
  rcases r4 q hq with y | y
  ·exact h.ap q y e
  ·have:=(World.ownsRow.lt h.al.row q e).2;omega
 refine ⟨x,Lc',hv',pv',H',P',r1,r6,Nat.le_trans h.gx.size s1,al',by rw [List.length_append] at tn;simp at tn;omega,fun w4 w5 va' g4 a5 o5 g5=>⟨?_,a5,fun q hq e=>?_,nb',?_,⟨hbl.1,hbl.2.1,by have:=g4.size;have:=g5.size;omega⟩⟩⟩
 ·refine r3.keep elpE (fun q hq=>?_) (fun s hs ns=>?_)
  ·have ql:=(r3.st.lt hq)
   exact (g5.block q (by have:=g4.size;omega) (fun e=>by
    rcases e with e | e
    ·omega
    ·exact ap' q hq e)).trans (g4.below.block q ql.2)
  ·have sb:=(r3.mem s hs ns).1
   exact (g5.block _ (by have:=g4.size;omega) (fun e=>by
    rcases e with e | e
    ·exact nb' s hs ns e
    ·have:=(World.ownsRow.lt h.al.row _ e).1;omega)).trans (g4.below.block _ (by omega))
 ·rcases o5 q e with y | y
  ·exact ap' q hq y
  ·have:=(r3.st.lt hq).2;have:=g4.size;omega
 ·refine (g0.tw g4).trans g5 (fun q hq=>?_)
  rcases hq with e | e
  ·exact .inl e
  ·exact .inr (by have:=(World.ownsRow.lt h.al.row q e).1;omega)
theorem tellF (L:List (Lst Ent)) (ao:Option Addr) (c bx:Nat) (hL:L.length<=2000000) (hS:sizes (L.map Lst.l)<=2000000) (w:World) (hv:LV w ao L) (hok:∀ s∈L,LOk Ent.ok w.heap.size s) (hel:∀ s∈L,s.l≠[]->ElE w s) (nb:∀ s∈L,s.l≠[]->s.b≠bx) (hbx:w.heap[bx]?=some (.cells #[.slice none 0 0] 59 (0,0))) :
  Calls prog 83 #[.func (.func 84) #[] #[],.slice ao L.length c,.func (.func 85) #[] #[.pointer (some ⟨bx,0,none⟩)]] w fun e w'=>e=.returned (.tuple #[])/\(∃ va o,Mg Ent.k (L.map Lst.l) o/\Alv w' bx w.heap.size va o)/\Gx (fun q=>q=bx) w w':=by
 obtain ⟨n,hn⟩:∃ n,L.length=n:=⟨_,rfl⟩;have HO:=heapOf_e 84 Ent.k keyOf_e L ao c (by omega) w hv hok hel
 rw [hn] at HO ⊢;have HOF:Hid _:=HO;have LN:Aside _:=hn;have BXL:Aside _:=blkl hbx;have BX0:Aside _:=hbx;have NB:Aside _:=nb;have ST:Hid (∀ W hv H,Tl 155 158 ElE Ent.ok Ent.k L w.heap.size 84 [] L hv (.slice none 0 0) H [] W->Gw w W->TlF w L w.heap.size bx [] L hv (.slice none 0 0) H [] (.slice none 0 0) W):=fun W hv H t g=>⟨t,⟨(g.below.block _ BXL.out).trans BX0.out,World.ownsRow_nil _ _ _ _,(fun q e=>by cases e)⟩,(fun q _ e=>by cases e),NB.out,g.gx _,⟨BXL.out,rfl,blkl t.st.hp.blk⟩⟩
 obtain ⟨hb,hhb⟩:∃ hb,w.heap.size=hb:=⟨_,rfl⟩;have HBE:Aside _:=hhb;rw [hhb] at HOF ST;have NX:Hid (∀ told Lc hv pv H P va wr,TlF w L hb bx told Lc hv pv H P va wr->Calls prog 91 #[.pointer (some ⟨hb,0,none⟩)] wr fun e w'=>NextR 155 158 wr hb 84 3 hv pv H Ent.k encE (.agg #[.int .u64 0,.int .u64 0,.bool false]) e w'):=fun told Lc hv pv H P va wr h=>next_e hb _ hv pv H P Ent.k keyOf_e (by have:=h.tl.few;omega) (by have:=h.tl.pl;omega) wr h.tl.st h.tl.ho (h.tl.me (by omega))
 have E1:Hid (∀ va o x W,hb<=W.heap.size->o.length<=3000000->Alv W bx hb va o->Calls prog 85 #[encE x,.pointer (some ⟨bx,0,none⟩)] W fun e w'=>e=.returned (.bool true)/\(∃ va',Alv w' bx hb va' (o++[x])/\(∀ q,va'.ownBlock=some q->va.ownBlock=some q\/W.heap.size<=q))/\Gx (fun q=>q=bx\/va.ownBlock=some q) W w'):=fun va o x W h1 h2 h3=>ent1 bx hb va o x W h1 h2 h3
 obtain ⟨sz,hsz⟩:∃ sz,sizes (L.map Lst.l)=sz:=⟨_,rfl⟩;have SZ:Aside _:=hsz;rw [hsz] at hS;clear HO hv hok hel hn nb hbx hhb hsz;go_enter func83,ntmps83;go_wp2_with fail;refine Calls.mono HOF.out ?_;rintro e w1 ⟨rfl,⟨hv,H,t1⟩,g1⟩;have T1:Aside _:=ST.out w1 hv H t1 g1;clear t1 g1 HOF ST;go_wp2_with fail;go_loopg [] (sz+1) (fun gg wr=>∃ (told:List Ent) (Lc:List (Lst Ent)) (hv pv:Value) (H P:List (Hd Ent)) (va:Value) (m:Nat),m<gg/\Aside (sizes (Lc.map Lst.l)=m)/\Aside (TlF w L hb bx told Lc hv pv H P va wr))
 case atStart=>exact ⟨[],L,hv,_,H,[],_,sz,by omega,SZ,T1⟩
 case round =>
  clear T1;obtain ⟨told,Lc,hv,pv,H,P,va,m,mg,MS,TT⟩:=hrel;obtain ⟨wS,hwS⟩:∃ wx,wx=wr:=⟨_,rfl⟩;subst hwS;have NXX:Hid _:=NX.out _ _ _ _ _ _ _ _ TT.out;by_cases hE:H=[]
  ·have NX2:Hid (Calls prog 91 #[.pointer (some ⟨hb,0,none⟩)] wS fun e w'=>e=.returned (.tuple #[.agg #[.int .u64 0,.int .u64 0,.bool false],.bool false])/\Gw wS w'):=Calls.mono NXX.out fun e w' r=>r.1 hE
   have OV:Aside _:=TT.out.tl.over hE;clear hE NX NXX E1;go_wp2_with fail;refine Calls.mono NX2.out ?_;rintro e w2 ⟨rfl,g2⟩;have G2:Aside (Gw wS (w2.alloc (.cells #[.int .u64 0,.int .u64 0,.bool false] 69))):=g2.alloc _ _;clear g2 NX2;go_wp2_with fail;refine bodyPost_ret (results_none rfl _ _ _) rfl ?_;exact ⟨rfl,⟨va,told,OV.out,by
    have a:=TT.out.al;rw [HBE.out];exact ⟨(G2.out.below.block _ (blkl a.blk)).trans a.blk,eo_gw a.row G2.out,a.ne⟩⟩,TT.out.gx.tw G2.out⟩
  ·have NX2:Hid _:=Calls.mono NXX.out fun e w' r=>TT.out.next hE r
   clear hE NX NXX;go_wp2_with fail;refine Calls.mono NX2.out ?_;rintro e w2 ⟨x,Lc',hv',pv',H',P',rfl,slt,sgr,al2,tlt,STP⟩;have SLT:Aside (sizes (Lc'.map Lst.l)<m):=by rw [<-MS.out];exact slt
   have SGR:Aside (hb<=w2.heap.size):=by rw [<-HBE.out];exact sgr
   have AL2:Aside _:=al2;have TLT:Aside (told.length<=3000000):=by rw [SZ.out] at tlt;show _<=_;omega
   have STH:Hid _:=STP;clear slt sgr al2 tlt STP NX2;have EX:=fun W=>E1.out va told x W
   obtain ⟨xk,xv,xg⟩:=x;simp only [encE] at EX;obtain ⟨W3,E3⟩:∃ W3,w2.alloc (.cells #[.int .u64 xk,.int .u64 xv,.bool xg] 69)=W3:=⟨_,rfl⟩;have G3:Aside (Gw w2 W3):=by rw [<-E3];exact (Gw.refl w2).alloc _ _
   have b3:W3.heap[w2.heap.size]?=some (.cells #[.int .u64 xk,.int .u64 xv,.bool xg] 69 (0,0)):=by rw [<-E3];exact heap_alloc_new w2 _
   have d0:=blkc (o:=0) b3 rfl;have d1:=blkc (o:=1) b3 rfl;have d2:=blkc (o:=2) b3 rfl;have l3:w2.heap.size<W3.heap.size:=blkl b3;have EXX:Hid _:=EX W3 (Nat.le_trans SGR.out G3.out.size) TLT.out ⟨(G3.out.below.block _ (blkl AL2.out.blk)).trans AL2.out.blk,eo_gw AL2.out.row G3.out,AL2.out.ne⟩;clear EX E1 b3;simp only [encE];go_wp2_with fail;refine Calls.mono EXX.out ?_;rintro e w5 ⟨rfl,⟨va',a5,o5⟩,g5⟩;have T5:Aside _:=STH.out W3 w5 va' G3.out a5 o5 g5;clear a5 o5 g5 STH EXX;obtain ⟨m',hm'⟩:∃ m',sizes (Lc'.map Lst.l)=m':=⟨_,rfl⟩;have MS':Aside _:=hm';have ml:m'<m:=by rw [<-hm'];exact SLT.out
   clear hm';go_wp2_with fail;go_roundg (m'+1)
   case measure=>omega
   case rel=>exact ⟨_,Lc',hv',pv',H',P',va',m',by omega,MS',T5⟩
end Go.Proofs.YtemijdhemdhclaaGreat
