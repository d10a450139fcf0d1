/- narrow: what a key's two points leave of the slopes. -/
import Derived.Test.YtklkpldicbkjeaaGreatVPCl
set_option linter.unusedVariables false
set_option maxHeartbeats 8000000
open Go.Proofs.Tryz
namespace Go.Proofs.YtklkpldicbkjeaaGreat
open Go.RowKit
theorem adN {w:World} {p g0 m0 bH g1 m1 cD:Nat} {e:Int} {n:Nat} {f:Nat->Int} {lr lf mr mf:Int} {c0 c1:Nat->Nat} (kb:KB f n) (hn:0<n) (ID:n<=3000000) (e1:1<=e) (e2:e<=63) (x:Int) (hx:f (n-1)<x) (x1:x<18446744073709551616)
  (hb:bL w p (dc e n lr lf mr mf (.slice (some ⟨g0,0,none⟩) m0 bH) (.slice (some ⟨g1,0,none⟩) m1 cD)) 211) (k0:CH w p 6 g0 m0 bH (-1) (-e) f n c0) (k1:CH w p 8 g1 m1 cD 1 e f n c1)
  (low:fA e f (ay n) lr lf) (top:fB e f (ay n) mr mf) (sb:SB lr lf mr mf) :
  Calls prog 155 #[.pointer (some ⟨p,0,none⟩),.agg #[.int .u64 x,.int .i64 ((n:Int)-e)],.agg #[.int .u64 x,.int .i64 ((n:Int)+e)]] w fun ex w'=>∃ ok:Bool,ex=.returned (.bool ok)/\IC w w' p e n f x (.slice (some ⟨g0,0,none⟩) m0 bH) (.slice (some ⟨g1,0,none⟩) m1 cD) ok:=by
 have T1:ag (∀ W,Gw w W->Calls prog 177 #[.pointer (some ⟨p,8,none⟩),.agg #[.int .u64 x,.int .i64 ((n:Int)-e)]] W fun ex w'=>(∃ xa ya:Int,ex=.returned (.agg #[.int .u64 xa,.int .i64 ya])/\PL e f n x xa ya)/\Gw W w'):=fun W G=>adK kb hn e1 e2 x hx x1 (k1.gw G)
 have T2:ag (∀ W,Gw w W->Calls prog 177 #[.pointer (some ⟨p,6,none⟩),.agg #[.int .u64 x,.int .i64 ((n:Int)+e)]] W fun ex w'=>(∃ xa ya:Int,ex=.returned (.agg #[.int .u64 xa,.int .i64 ya])/\PT e f n x xa ya)/\Gw W w'):=fun W G=>adL kb hn e1 e2 x hx x1 (k0.gw G)
 have B1:ag (∀ xa ya,PL e f n x xa ya->∀ W,Calls prog 176 #[.agg #[.int .u64 xa,.int .i64 ya],.agg #[.int .u64 x,.int .i64 ((n:Int)-e)]] W fun ex w'=>ex=.returned (.agg #[.int .i64 ((n:Int)-e-ya),.int .u64 (x-xa)])/\Gw W w'):=by
  intro xa ya h W;obtain ⟨q1,q2,q3,q4⟩:=h.bd kb hx e1 e2;exact A4 xa ya x _ q1 q2 x1 (by omega) (by omega) (by omega) (by omega) W
 have B2:ag (∀ xa ya,PT e f n x xa ya->∀ W,Calls prog 176 #[.agg #[.int .u64 xa,.int .i64 ya],.agg #[.int .u64 x,.int .i64 ((n:Int)+e)]] W fun ex w'=>ex=.returned (.agg #[.int .i64 ((n:Int)+e-ya),.int .u64 (x-xa)])/\Gw W w'):=by
  intro xa ya h W;obtain ⟨q1,q2,q3,q4⟩:=h.bd kb hx e1 e2;exact A4 xa ya x _ q1 q2 x1 (by omega) (by omega) (by omega) (by omega) W
 have HB:ag (bL w p (dc e n lr lf mr mf (.slice (some ⟨g0,0,none⟩) m0 bH) (.slice (some ⟨g1,0,none⟩) m1 cD)) 211):=hb;have LP:=hb.lt;have UP:ag (Up (aC f n x) (n+1)):=Cg kb.up (fun _=>hx)
 clear hb k0 k1;go_enter func155,ntmps155;go_wp2_with fail;have W0:Ba w (((w.alloc (.cells #[.int .u64 x,.int .i64 ((n:Int)-e)] 233)).alloc (.cells #[.int .u64 x,.int .i64 ((n:Int)+e)] 233))) (.int .u64 x) (.int .i64 ((n:Int)-e)) (.int .u64 x) (.int .i64 ((n:Int)+e)):=adM w _ _ _ _ _ _;have iw:ag (Ba w (((w.alloc (.cells #[.int .u64 x,.int .i64 ((n:Int)-e)] 233)).alloc (.cells #[.int .u64 x,.int .i64 ((n:Int)+e)] 233))) (.int .u64 x) (.int .i64 ((n:Int)-e)) (.int .u64 x) (.int .i64 ((n:Int)+e))):=W0;clear W0;generalize ((w.alloc (.cells #[.int .u64 x,.int .i64 ((n:Int)-e)] 233)).alloc (.cells #[.int .u64 x,.int .i64 ((n:Int)+e)] 233))=W at iw ⊢;have a0:=iw.o.a0;have a1:=iw.o.a1;have BF:ag (∀ w',Gw W w'->w'.cell? ⟨w.heap.size,0,none⟩=some (.int .u64 x)/\w'.cell? ⟨w.heap.size,1,none⟩=some (.int .i64 ((n:Int)-e))):=fun w' G=>⟨(G.cell _ _ (by rw [iw.o.size];omega)).trans iw.o.a0,(G.cell _ _ (by rw [iw.o.size];omega)).trans iw.o.a1⟩
 have a2:w.heap.size+1<W.heap.size:=by rw [iw.o.size];omega
 have a3:w.heap.size<W.heap.size:=by omega
 go_cut [7] (fun s7 wc=>∃ (b:Nat) (xq yq:Int),s7=.pointer (some ⟨b,0,none⟩)/\ag (Bx wc b 205 (.int .i64 ((n:Int)-e-yq)) (.int .u64 (x-xq)))/\ag (PL e f n x xq yq)/\ag (W.heap.size<=b)/\ag (Gw W wc))
 case first =>
  go_region_with (first
   | (go_at_call 177;refine (T1.o _ (iw.o.gw.trans (by repeat (first | exact Gw.refl _ | refine Gw.drew ?_ | refine Gw.alloc ?_ _ _)))).mono ?_;rintro ex w4 ⟨⟨xq,yq,rfl,hP⟩,g4⟩;have G4:ag (Gw W w4):=(Gw.trans (by repeat (first | exact Gw.refl _ | refine Gw.drew ?_ | refine Gw.alloc ?_ _ _)) g4);obtain ⟨y0,y1⟩:=BF.o w4 G4.o;have y2:w.heap.size<w4.heap.size:=Nat.lt_of_lt_of_le a3 G4.o.size;have HP:ag (PL e f n x xq yq):=hP;(first | (have n4:Bx w4 W.heap.size 205 (.int .i64 0) (.int .u64 0):=((Bx.new W 205 (.int .i64 0) (.int .u64 0)).gw ((Gw.refl _).drew.trans g4));have N4:ag (Bx w4 W.heap.size 205 (.int .i64 0) (.int .u64 0)):=n4;have z0:=n4.c0;have z1:=n4.c1;have z2:=n4.fz 0;have z3:=n4.fz 1;clear n4) | skip);clear g4 hP)
   | (go_at_call 176;refine (B1.o _ _ HP.o _).mono ?_;rintro ex w5 ⟨rfl,g5⟩;have G5:ag (Gw W w5):=(Gw.trans G4.o (Gw.trans (by repeat (first | exact Gw.refl _ | refine Gw.drew ?_ | refine Gw.alloc ?_ _ _)) g5));(first | (have N5:ag (Bx w5 W.heap.size 205 (.int .i64 0) (.int .u64 0)):=(N4.o.gw g5);have IE:=N5.o.c0;have IF:=N5.o.c1;have xA:=N5.o.fz 0;have IG:=N5.o.fz 1) | (have N5:ag (Bx w5 w4.heap.size 205 (.int .i64 0) (.int .u64 0)):=((Bx.new w4 205 (.int .i64 0) (.int .u64 0)).gw g5);have IE:=N5.o.c0;have IF:=N5.o.c1;have xA:=N5.o.fz 0;have IG:=N5.o.fz 1) | skip);clear g5))
  all_goals
   go_wp2_with fail;go_meet
  all_goals
   case rel =>
    first
     | exact ⟨w5.heap.size,xq,yq,rfl,(show ag _ from Bx.new _ _ _ _),(show ag _ from HP.o),(show ag _ from G5.o.size),(show ag _ from G5.o.alloc _ _)⟩
     | exact ⟨w4.heap.size,xq,yq,rfl,(show ag _ from N5.o.set _ _),(show ag _ from HP.o),(show ag _ from G4.o.size),(show ag _ from (G5.o.setCell G4.o.size _).setCell G4.o.size _)⟩
     | exact ⟨W.heap.size,xq,yq,rfl,(show ag _ from N5.o.set _ _),(show ag _ from HP.o),(show ag _ from Nat.le_refl _),(show ag _ from (G5.o.setCell (Nat.le_refl _) _).setCell (Nat.le_refl _) _)⟩
 case rest =>
  obtain ⟨W1,eW⟩:∃ wx,wx=wc:=⟨_,rfl⟩;subst eW;obtain ⟨b7,xa,ya,rfl,IJ,Bd,UM,GA⟩:=hcut;have gM:ag (Gw w W1):=iw.o.gw.trans GA.o;have Be:ag (∀ w',Gw W1 w'->w'.cell? ⟨w.heap.size+1,0,none⟩=some (.int .u64 x)/\w'.cell? ⟨w.heap.size+1,1,none⟩=some (.int .i64 ((n:Int)+e))):=fun w' G=>⟨((GA.o.trans G).cell _ _ (by rw [iw.o.size];omega)).trans iw.o.b0,((GA.o.trans G).cell _ _ (by rw [iw.o.size];omega)).trans iw.o.b1⟩
  have a5:w.heap.size+1<W1.heap.size:=Nat.lt_of_lt_of_le a2 GA.o.size;have a6:=(Be.o W1 (Gw.refl W1)).1;have a7:=(Be.o W1 (Gw.refl W1)).2;clear a0 a1 BF;go_wp2_with fail;go_cut [8] (fun s7 wc=>∃ (b:Nat) (xq yq:Int),s7=.pointer (some ⟨b,0,none⟩)/\ag (Bx wc b 205 (.int .i64 ((n:Int)+e-yq)) (.int .u64 (x-xq)))/\ag (PT e f n x xq yq)/\ag (W1.heap.size<=b)/\ag (Gw W1 wc))
  case first =>
   go_region_with (first
    | (go_at_call 177;refine (T2.o _ (gM.o.trans (by repeat (first | exact Gw.refl _ | refine Gw.drew ?_ | refine Gw.alloc ?_ _ _)))).mono ?_;rintro ex w4 ⟨⟨xq,yq,rfl,hP⟩,g4⟩;have G4:ag (Gw W1 w4):=(Gw.trans (by repeat (first | exact Gw.refl _ | refine Gw.drew ?_ | refine Gw.alloc ?_ _ _)) g4);obtain ⟨y0,y1⟩:=Be.o w4 G4.o;have y2:w.heap.size+1<w4.heap.size:=Nat.lt_of_lt_of_le a5 G4.o.size;have HP:ag (PT e f n x xq yq):=hP;(first | (have n4:Bx w4 W1.heap.size 205 (.int .i64 0) (.int .u64 0):=((Bx.new W1 205 (.int .i64 0) (.int .u64 0)).gw ((Gw.refl _).drew.trans g4));have N4:ag (Bx w4 W1.heap.size 205 (.int .i64 0) (.int .u64 0)):=n4;have z0:=n4.c0;have z1:=n4.c1;have z2:=n4.fz 0;have z3:=n4.fz 1;clear n4) | skip);clear g4 hP)
    | (go_at_call 176;refine (B2.o _ _ HP.o _).mono ?_;rintro ex w5 ⟨rfl,g5⟩;have G5:ag (Gw W1 w5):=(Gw.trans G4.o (Gw.trans (by repeat (first | exact Gw.refl _ | refine Gw.drew ?_ | refine Gw.alloc ?_ _ _)) g5));(first | (have N5:ag (Bx w5 W1.heap.size 205 (.int .i64 0) (.int .u64 0)):=(N4.o.gw g5);have IE:=N5.o.c0;have IF:=N5.o.c1;have xA:=N5.o.fz 0;have IG:=N5.o.fz 1) | (have N5:ag (Bx w5 w4.heap.size 205 (.int .i64 0) (.int .u64 0)):=((Bx.new w4 205 (.int .i64 0) (.int .u64 0)).gw g5);have IE:=N5.o.c0;have IF:=N5.o.c1;have xA:=N5.o.fz 0;have IG:=N5.o.fz 1) | skip);clear g5))
   all_goals
    go_wp2_with fail;go_meet
   all_goals
    case rel =>
     first
      | exact ⟨w5.heap.size,xq,yq,rfl,(show ag _ from Bx.new _ _ _ _),(show ag _ from HP.o),(show ag _ from G5.o.size),(show ag _ from G5.o.alloc _ _)⟩
      | exact ⟨w4.heap.size,xq,yq,rfl,(show ag _ from N5.o.set _ _),(show ag _ from HP.o),(show ag _ from G4.o.size),(show ag _ from (G5.o.setCell G4.o.size _).setCell G4.o.size _)⟩
      | exact ⟨W1.heap.size,xq,yq,rfl,(show ag _ from N5.o.set _ _),(show ag _ from HP.o),(show ag _ from Nat.le_refl _),(show ag _ from (G5.o.setCell (Nat.le_refl _) _).setCell (Nat.le_refl _) _)⟩
  case rest =>
   obtain ⟨W2,eW⟩:∃ wx,wx=wc:=⟨_,rfl⟩;subst eW;obtain ⟨b8,xb,yb,rfl,UO,UQ,UR,GB⟩:=hcut;have IK:ag (Gw w W2):=gM.o.trans GB.o;have X7:ag (Bx W2 b7 205 (.int .i64 ((n:Int)-e-ya)) (.int .u64 (x-xa))):=IJ.o.gw GB.o;have X8:ag (Bx W2 b8 205 (.int .i64 ((n:Int)+e-yb)) (.int .u64 (x-xb))):=UO.o;have L78:b7<b8:=Nat.lt_of_lt_of_le IJ.o.lt UR.o;have US:w.heap.size<=b7:=Nat.le_trans iw.o.gw.size UM.o;have kL:ag ((((n:Int)-e-ya)*lf<lr*(x-xa)->fA e (aC f n x) (ay (n+1)) lr lf)/\(lr*(x-xa)<=((n:Int)-e-ya)*lf->fA e (aC f n x) (ay (n+1)) ((n:Int)-e-ya) (x-xa))/\(-10000000<=(n:Int)-e-ya/\(n:Int)-e-ya<=10000000/\0<=x-xa/\x-xa<18446744073709551616)):=by
    obtain ⟨t,ht,q1,q2,q3⟩:=Bd.o;have b1:=kb.bd t ht;have b2:=kb.up.le (show t<=n-1 by omega) (by omega)
    obtain ⟨m1,m2⟩:=adu UP.o low ht (show (n:Int)-e-ya=(n:Int)-t-2*e by omega) (show x-xa=x-f t by rw [q1]) (fun j hj=>by rw [q1,show (n:Int)-e-ya=(n:Int)-t-2*e by omega];exact q3 j hj)
    exact ⟨m1,fun q=>m2 (by omega),by omega,by omega,by omega,by omega⟩
   have lS:ag ((mr*(x-xb)<((n:Int)+e-yb)*mf->fB e (aC f n x) (ay (n+1)) mr mf)/\(((n:Int)+e-yb)*mf<=mr*(x-xb)->fB e (aC f n x) (ay (n+1)) ((n:Int)+e-yb) (x-xb))/\(0<=(n:Int)+e-yb/\(n:Int)+e-yb<=10000000/\0<=x-xb/\x-xb<18446744073709551616)):=by
    obtain ⟨t,ht,q1,q2,q3⟩:=UQ.o;have b1:=kb.bd t ht;have b2:=kb.up.le (show t<=n-1 by omega) (by omega)
    obtain ⟨m1,m2⟩:=adw (by omega) UP.o top ht (show (n:Int)+e-yb=(n:Int)-t+2*e by omega) (show x-xb=x-f t by rw [q1]) (fun j hj=>by rw [q1,show (n:Int)+e-yb=(n:Int)-t+2*e by omega];exact q3 j hj)
    exact ⟨m1,fun q=>m2 (by omega),by omega,by omega,by omega,by omega⟩
   clear IJ UO Bd UQ UM UR GA GB gM Be a5 a6 a7 iw a2 a3 T1 T2 B1 B2;generalize (n:Int)-e-ya=r7 at X7 kL;generalize x-xa=s7 at X7 kL;generalize (n:Int)+e-yb=r8 at X8 lS;generalize x-xb=s8 at X8 lS;have C1:ag (∀ W,Calls prog 178 #[.agg #[.int .i64 r7,.int .u64 s7],.agg #[.int .i64 lr,.int .u64 lf]] W fun ex w'=>ex=.returned (.int .i64 (bI (r7*lf) (lr*s7)))/\Gw W w'):=fun W=>(by
    have q:=kL.o.2.2;exact AZ r7 s7 lr lf (by omega) (by omega) (by omega) (by omega) (by have:=sb.l0;omega) (by have:=sb.l1;omega) sb.l2 sb.l3 W)
   have C2:ag (∀ W,Calls prog 178 #[.agg #[.int .i64 r8,.int .u64 s8],.agg #[.int .i64 mr,.int .u64 mf]] W fun ex w'=>ex=.returned (.int .i64 (bI (r8*mf) (mr*s8)))/\Gw W w'):=fun W=>(by
    have q:=lS.o.2.2;exact AZ r8 s8 mr mf (by omega) (by omega) (by omega) (by omega) (by have:=sb.m0;omega) (by have:=sb.m1;omega) sb.m2 sb.m3 W)
   have D1:ag (bI (r7*lf) (lr*s7)<0↔r7*lf<lr*s7):=adJ _ _;have D2:ag (0<bI (r8*mf) (mr*s8)↔mr*s8<r8*mf):=UL _ _;generalize bI (r7*lf) (lr*s7)=d1 at C1 D1;generalize bI (r8*mf) (mr*s8)=d2 at C2 D2;have F2:=HB.o.gw IK.o;have Bc:ag (bL W2 p (dc e n lr lf mr mf (.slice (some ⟨g0,0,none⟩) m0 bH) (.slice (some ⟨g1,0,none⟩) m1 cD)) 211):=F2;have IL:=F2.lt;have k0:=GX.cell X7.o.c0 X7.o.lt;have k1:=GX.cell X7.o.c1 X7.o.lt;have k2:=GX.cell (F2.cell (o:=2) (v:=.int .i64 lr) rfl) IL;have k3:=GX.cell (F2.cell (o:=3) (v:=.int .u64 lf) rfl) IL;have NN:=GX.some W2;clear F2;go_wp2_with fail;refine fO (by kernel_rfl) (by kernel_rfl) ?_
   repeat (go_big_quiet_step (fail))
   go_big_quiet_want;go_big_quiet_op
   go_big_quiet_call (exact dQ (C1.o _))
   repeat (go_big_quiet_step (fail))
   refine wpQuiet_nil ?_;rintro _ ⟨gx,rfl⟩;clear k0 k1 k2 k3;obtain ⟨W3,tQ⟩:∃ W3,W3=gx.1:=⟨_,rfl⟩;have G3:ag (Gw W2 W3):=by rw [tQ];exact gx.2
   rw [<-tQ];clear tQ gx;go_upto_if 31 with fail;have rT:ag (Bx W3 b7 205 (.int .i64 r7) (.int .u64 s7)):=X7.o.gw G3.o;have IM:ag (Bx W3 b8 205 (.int .i64 r8) (.int .u64 s8)):=X8.o.gw G3.o;have IP:ag (Gw w W3):=IK.o.trans G3.o;have F3:ag (bL W3 p (dc e n lr lf mr mf (.slice (some ⟨g0,0,none⟩) m0 bH) (.slice (some ⟨g1,0,none⟩) m1 cD)) 211):=Bc.o.gw G3.o;clear X7 X8 IK Bc G3 NN IL;go_cut [] (fun wc=>∃ (ra sa:Int),ag (Bx wc b7 205 (.int .i64 ra) (.int .u64 sa))/\ag (fA e (aC f n x) (ay (n+1)) ra sa/\0<=ra/\ra<=10000000/\0<=sa/\sa<18446744073709551616)/\ag (Bx wc b8 205 (.int .i64 r8) (.int .u64 s8))/\ag (Gw w wc))
   case first =>
    by_cases hd:d1<0
    ·have q0:=rT.o.c0
     have q1:=rT.o.c1;have q2:=rT.o.fz 0;have q3:=rT.o.fz 1;have q4:=F3.o.cell (o:=2) (v:=.int .i64 lr) rfl;have q5:=F3.o.cell (o:=3) (v:=.int .u64 lf) rfl;have LU:ag (fA e (aC f n x) (ay (n+1)) lr lf):=kL.o.1 (D1.o.1 hd);have RR:ag (Bx ((W3.setCell ⟨b7,0,none⟩ (.int .i64 lr)).setCell ⟨b7,1,none⟩ (.int .u64 lf)) b7 205 (.int .i64 lr) (.int .u64 lf)/\Bx ((W3.setCell ⟨b7,0,none⟩ (.int .i64 lr)).setCell ⟨b7,1,none⟩ (.int .u64 lf)) b8 205 (.int .i64 r8) (.int .u64 s8)/\Gw w ((W3.setCell ⟨b7,0,none⟩ (.int .i64 lr)).setCell ⟨b7,1,none⟩ (.int .u64 lf))):=⟨rT.o.set _ _,(IM.o.far _ (by omega)).far _ (by omega),(IP.o.setCell US _).setCell US _⟩
     clear C1 C2 kL lS D1 D2 low top kb;go_wp2_with fail;go_meet
     case rel=>exact ⟨lr,lf,(show ag _ from RR.o.1),(show ag _ from ⟨LU.o,sb.l0,sb.l1,sb.l2,sb.l3⟩),(show ag _ from RR.o.2.1),(show ag _ from RR.o.2.2)⟩
    ·have LU:ag (fA e (aC f n x) (ay (n+1)) r7 s7):=kL.o.2.1 (by have h2:¬ r7*lf<lr*s7:=fun q=>hd (D1.o.2 q);omega)
     have BB:ag (0<=r7/\r7<=10000000/\0<=s7/\s7<18446744073709551616):=⟨LU.o.a0,kL.o.2.2.2.1,kL.o.2.2.2.2⟩;clear C1 C2 kL lS D1 D2 low top kb;go_wp2_with fail;go_meet
     case rel=>exact ⟨r7,s7,(show ag _ from rT.o),(show ag _ from ⟨LU.o,BB.o⟩),(show ag _ from IM.o),(show ag _ from IP.o)⟩
   case rest =>
    obtain ⟨W4,eW⟩:∃ wx,wx=wc:=⟨_,rfl⟩;subst eW;obtain ⟨ra,sa,UT,LL,uo,IQ⟩:=hcut;have F4:ag (bL W4 p (dc e n lr lf mr mf (.slice (some ⟨g0,0,none⟩) m0 bH) (.slice (some ⟨g1,0,none⟩) m1 cD)) 211):=HB.o.gw IQ.o;have xM:=F4.o.lt;have k0:=GX.cell uo.o.c0 uo.o.lt;have k1:=GX.cell uo.o.c1 uo.o.lt;have k2:=GX.cell (F4.o.cell (o:=4) (v:=.int .i64 mr) rfl) xM;have k3:=GX.cell (F4.o.cell (o:=5) (v:=.int .u64 mf) rfl) xM;have NN:=GX.some W4;clear rT IM IP F3;go_wp2_with fail;refine fO (by kernel_rfl) (by kernel_rfl) ?_
    repeat (go_big_quiet_step (fail))
    go_big_quiet_want;go_big_quiet_op
    go_big_quiet_call (exact dQ (C2.o _))
    repeat (go_big_quiet_step (fail))
    refine wpQuiet_nil ?_;rintro _ ⟨gx,rfl⟩;clear k0 k1 k2 k3;obtain ⟨W5,IU⟩:∃ W5,W5=gx.1:=⟨_,rfl⟩;have G5:ag (Gw W4 W5):=by rw [IU];exact gx.2
    rw [<-IU];clear IU gx;go_upto_if 42 with fail;have IV:ag (Bx W5 b7 205 (.int .i64 ra) (.int .u64 sa)):=UT.o.gw G5.o;have rU:ag (Bx W5 b8 205 (.int .i64 r8) (.int .u64 s8)):=uo.o.gw G5.o;have IW:ag (Gw w W5):=IQ.o.trans G5.o;have F5:ag (bL W5 p (dc e n lr lf mr mf (.slice (some ⟨g0,0,none⟩) m0 bH) (.slice (some ⟨g1,0,none⟩) m1 cD)) 211):=F4.o.gw G5.o;have UW:w.heap.size<=b8:=by omega
    clear UT uo IQ F4 G5 NN xM;go_cut [] (fun wc=>∃ (rb sc:Int),ag (Bx wc b8 205 (.int .i64 rb) (.int .u64 sc))/\ag (fB e (aC f n x) (ay (n+1)) rb sc/\0<=rb/\rb<=10000000/\0<=sc/\sc<18446744073709551616)/\ag (Bx wc b7 205 (.int .i64 ra) (.int .u64 sa))/\ag (Gw w wc))
    case first =>
     by_cases hd:0<d2
     ·have q0:=rU.o.c0
      have q1:=rU.o.c1;have q2:=rU.o.fz 0;have q3:=rU.o.fz 1;have q4:=F5.o.cell (o:=4) (v:=.int .i64 mr) rfl;have q5:=F5.o.cell (o:=5) (v:=.int .u64 mf) rfl;have LU:ag (fB e (aC f n x) (ay (n+1)) mr mf):=lS.o.1 (D2.o.1 hd);have RR:ag (Bx ((W5.setCell ⟨b8,0,none⟩ (.int .i64 mr)).setCell ⟨b8,1,none⟩ (.int .u64 mf)) b8 205 (.int .i64 mr) (.int .u64 mf)/\Bx ((W5.setCell ⟨b8,0,none⟩ (.int .i64 mr)).setCell ⟨b8,1,none⟩ (.int .u64 mf)) b7 205 (.int .i64 ra) (.int .u64 sa)/\Gw w ((W5.setCell ⟨b8,0,none⟩ (.int .i64 mr)).setCell ⟨b8,1,none⟩ (.int .u64 mf))):=⟨rU.o.set _ _,(IV.o.far _ (by omega)).far _ (by omega),(IW.o.setCell UW _).setCell UW _⟩
      clear C1 C2 kL lS D1 D2 low top kb;go_wp2_with fail;go_meet
      case rel=>exact ⟨mr,mf,(show ag _ from RR.o.1),(show ag _ from ⟨LU.o,sb.m0,sb.m1,sb.m2,sb.m3⟩),(show ag _ from RR.o.2.1),(show ag _ from RR.o.2.2)⟩
     ·have LU:ag (fB e (aC f n x) (ay (n+1)) r8 s8):=lS.o.2.1 (by have h2:¬ mr*s8<r8*mf:=fun q=>hd (D2.o.2 q);omega)
      have BB:ag (0<=r8/\r8<=10000000/\0<=s8/\s8<18446744073709551616):=lS.o.2.2;clear C1 C2 kL lS D1 D2 low top kb;go_wp2_with fail;go_meet
      case rel=>exact ⟨r8,s8,(show ag _ from rU.o),(show ag _ from ⟨LU.o,BB.o⟩),(show ag _ from IV.o),(show ag _ from IW.o)⟩
    case rest =>
     obtain ⟨W6,eW⟩:∃ wx,wx=wc:=⟨_,rfl⟩;subst eW;obtain ⟨rb,sc,IY,TT,IZ,UX⟩:=hcut;have UY:sc≠0:=by
      rcases TT.o.1 with ⟨_,_,no⟩ | ⟨_,q,_⟩
      ·exact absurd ⟨hn,by omega⟩ (no 0 n)
      ·omega
     have FI:ag (ra*sc<=rb*sa↔aQ e (aC f n x) (ay (n+1))):=adt (by omega) (sL UP.o) LL.o.1 TT.o.1 UY
     have C3:ag (∀ W,Calls prog 178 #[.agg #[.int .i64 ra,.int .u64 sa],.agg #[.int .i64 rb,.int .u64 sc]] W fun ex w'=>ex=.returned (.int .i64 (bI (ra*sc) (rb*sa)))/\Gw W w'):=fun W=>(by
      have q:=LL.o.2;have q':=TT.o.2;exact AZ ra sa rb sc (by omega) (by omega) (by omega) (by omega) (by omega) (by omega) (by omega) (by omega) W)
     have D3:ag (0<bI (ra*sc) (rb*sa)↔rb*sa<ra*sc):=UL _ _;generalize bI (ra*sc) (rb*sa)=d3 at C3 D3;have F6:ag (bL W6 p (dc e n lr lf mr mf (.slice (some ⟨g0,0,none⟩) m0 bH) (.slice (some ⟨g1,0,none⟩) m1 cD)) 211):=HB.o.gw UX.o;have q0:=IY.o.c0;have q1:=IY.o.c1;have q2:=IZ.o.c0;have q3:=IZ.o.c1;clear IV rU IW F5 C1 C2 kL lS D1 D2 low top kb UY;go_wp2_with fail;refine (C3.o _).mono ?_;rintro ex W7 ⟨rfl,g7⟩;have UZ:ag (Bx W7 b8 205 (.int .i64 rb) (.int .u64 sc)):=IY.o.gw g7;have U3:ag (Bx W7 b7 205 (.int .i64 ra) (.int .u64 sa)):=IZ.o.gw g7;have U4:ag (Gw w W7):=UX.o.trans g7;have F7:ag (bL W7 p (dc e n lr lf mr mf (.slice (some ⟨g0,0,none⟩) m0 bH) (.slice (some ⟨g1,0,none⟩) m1 cD)) 211):=F6.o.gw g7;clear q0 q1 q2 q3 g7 C3;by_cases hd:0<d3
     ·have NF:ag (¬ aQ e (aC f n x) (ay (n+1))):=fun q=>(by have h1:=FI.o.2 q;have h2:=D3.o.1 hd;omega)
      clear FI D3;go_wp2_with fail;go_ret;exact ⟨false,by simp,⟨fun q=>Bool.noConfusion q,fun q=>absurd q NF.o⟩,fun _=>U4.o,fun q=>Bool.noConfusion q⟩
     ·have YF:ag (aQ e (aC f n x) (ay (n+1))):=FI.o.1 (by have h2:¬ rb*sa<ra*sc:=fun q=>hd (D3.o.2 q);omega)
      have q0:=UZ.o.c0;have q1:=UZ.o.c1;have q2:=U3.o.c0;have q3:=U3.o.c1;have q4:=F7.o.cell (o:=2) (v:=.int .i64 lr) rfl;have q5:=F7.o.cell (o:=3) (v:=.int .u64 lf) rfl;have q6:=F7.o.cell (o:=4) (v:=.int .i64 mr) rfl;have q7:=F7.o.cell (o:=5) (v:=.int .u64 mf) rfl;have q8:=F7.o.fz 2;have q9:=F7.o.fz 3;have C5:=F7.o.fz 4;have C6:=F7.o.fz 5;have n7:p≠b7:=by omega
      have n8:p≠b8:=by omega
      clear FI D3;go_wp2_with fail;go_region
      all_goals
       clear q0 q1 q2 q3 q4 q5 q6 q7 q8 q9 C5 C6;have FB:ag (bL ((((W7.setCell ⟨p,2,none⟩ (.int .i64 ra)).setCell ⟨p,3,none⟩ (.int .u64 sa)).setCell ⟨p,4,none⟩ (.int .i64 rb)).setCell ⟨p,5,none⟩ (.int .u64 sc)) p (dc e n ra sa rb sc (.slice (some ⟨g0,0,none⟩) m0 bH) (.slice (some ⟨g1,0,none⟩) m1 cD)) 211):=(((F7.o.set 2 _).set 3 _).set 4 _).set 5 _;have GB:ag (Gs (fun q=>q=p) w ((((W7.setCell ⟨p,2,none⟩ (.int .i64 ra)).setCell ⟨p,3,none⟩ (.int .u64 sa)).setCell ⟨p,4,none⟩ (.int .i64 rb)).setCell ⟨p,5,none⟩ (.int .u64 sc))):=((((U4.o.gs (fun q=>q=p)).set rfl _ _).set rfl _ _).set rfl _ _).set rfl _ _
       go_wp2_with fail;go_ret
       exact ⟨true,by simp,⟨fun _=>YF.o,fun _=>rfl⟩,fun q=>Bool.noConfusion q,fun _=>⟨⟨ra,sa,rb,sc,FB.o,LL.o.1,TT.o.1,⟨LL.o.2.1,LL.o.2.2.1,LL.o.2.2.2.1,LL.o.2.2.2.2,TT.o.2.1,TT.o.2.2.1,TT.o.2.2.2.1,TT.o.2.2.2.2⟩⟩,GB.o.drew⟩⟩
end Go.Proofs.YtklkpldicbkjeaaGreat
