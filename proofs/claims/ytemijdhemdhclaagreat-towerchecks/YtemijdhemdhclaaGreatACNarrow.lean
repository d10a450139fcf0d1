/- narrow: what a key's two points leave of the slopes. -/
import Derived.Test.YtemijdhemdhclaaGreatAPCl
set_option linter.unusedVariables false
set_option maxHeartbeats 8000000
open Go.Proofs.Tryz
namespace Go.Proofs.YtemijdhemdhclaaGreat
open Go.RowKit
theorem narrow_any {w:World} {p g0 m0 cap0 g1 m1 cap1:Nat} {e:Int} {n:Nat} {f:Nat->Int} {lr lf mr mf:Int} {c0 c1:Nat->Nat} (kb:KB f n) (hn:0<n) (hn':n<=3000000) (e1:1<=e) (e2:e<=63) (x:Int) (hx:f (n-1)<x) (x1:x<18446744073709551616)
  (hb:Blk w p (fcells e n lr lf mr mf (.slice (some ⟨g0,0,none⟩) m0 cap0) (.slice (some ⟨g1,0,none⟩) m1 cap1)) 214) (k0:CH w p 6 g0 m0 cap0 (-1) (-e) f n c0) (k1:CH w p 8 g1 m1 cap1 1 e f n c1)
  (low:LowU e f (Prs n) lr lf) (top:TopU e f (Prs n) mr mf) (sb:SB lr lf mr mf) :
  Calls prog 157 #[.pointer (some ⟨p,0,none⟩),.agg #[.int .u64 x,.int .i64 ((n:Int)-e)],.agg #[.int .u64 x,.int .i64 ((n:Int)+e)]] w fun ex w'=>∃ ok:Bool,ex=.returned (.bool ok)/\Narrowed w w' p e n f x (.slice (some ⟨g0,0,none⟩) m0 cap0) (.slice (some ⟨g1,0,none⟩) m1 cap1) ok:=by
 have T1:Hid (∀ W,Gw w W->Calls prog 169 #[.pointer (some ⟨p,8,none⟩),.agg #[.int .u64 x,.int .i64 ((n:Int)-e)]] W fun ex w'=>(∃ xa ya:Int,ex=.returned (.agg #[.int .u64 xa,.int .i64 ya])/\PL e f n x xa ya)/\Gw W w'):=fun W G=>touched_low kb hn e1 e2 x hx x1 (k1.gw G)
 have T2:Hid (∀ W,Gw w W->Calls prog 169 #[.pointer (some ⟨p,6,none⟩),.agg #[.int .u64 x,.int .i64 ((n:Int)+e)]] W fun ex w'=>(∃ xa ya:Int,ex=.returned (.agg #[.int .u64 xa,.int .i64 ya])/\PT e f n x xa ya)/\Gw W w'):=fun W G=>touched_top kb hn e1 e2 x hx x1 (k0.gw G)
 have B1:Hid (∀ xa ya,PL e f n x xa ya->∀ W,Calls prog 168 #[.agg #[.int .u64 xa,.int .i64 ya],.agg #[.int .u64 x,.int .i64 ((n:Int)-e)]] W fun ex w'=>ex=.returned (.agg #[.int .i64 ((n:Int)-e-ya),.int .u64 (x-xa)])/\Gw W w'):=by
  intro xa ya h W;obtain ⟨q1,q2,q3,q4⟩:=h.bd kb hx e1 e2;exact between_any xa ya x _ q1 q2 x1 (by omega) (by omega) (by omega) (by omega) W
 have B2:Hid (∀ xa ya,PT e f n x xa ya->∀ W,Calls prog 168 #[.agg #[.int .u64 xa,.int .i64 ya],.agg #[.int .u64 x,.int .i64 ((n:Int)+e)]] W fun ex w'=>ex=.returned (.agg #[.int .i64 ((n:Int)+e-ya),.int .u64 (x-xa)])/\Gw W w'):=by
  intro xa ya h W;obtain ⟨q1,q2,q3,q4⟩:=h.bd kb hx e1 e2;exact between_any xa ya x _ q1 q2 x1 (by omega) (by omega) (by omega) (by omega) W
 have HB:Hid (Blk w p (fcells e n lr lf mr mf (.slice (some ⟨g0,0,none⟩) m0 cap0) (.slice (some ⟨g1,0,none⟩) m1 cap1)) 214):=hb;have LP:=hb.lt;have UP:Hid (Up (upd f n x) (n+1)):=up_upd kb.up (fun _=>hx)
 clear hb k0 k1;go_enter func157,ntmps157;go_wp2_with fail;have W0:Two w (((w.alloc (.cells #[.int .u64 x,.int .i64 ((n:Int)-e)] 231)).alloc (.cells #[.int .u64 x,.int .i64 ((n:Int)+e)] 231))) (.int .u64 x) (.int .i64 ((n:Int)-e)) (.int .u64 x) (.int .i64 ((n:Int)+e)):=two_new' w _ _ _ _ _ _;have W0':Hid (Two w (((w.alloc (.cells #[.int .u64 x,.int .i64 ((n:Int)-e)] 231)).alloc (.cells #[.int .u64 x,.int .i64 ((n:Int)+e)] 231))) (.int .u64 x) (.int .i64 ((n:Int)-e)) (.int .u64 x) (.int .i64 ((n:Int)+e))):=W0;clear W0;generalize ((w.alloc (.cells #[.int .u64 x,.int .i64 ((n:Int)-e)] 231)).alloc (.cells #[.int .u64 x,.int .i64 ((n:Int)+e)] 231))=W at W0' ⊢;have a0:=W0'.out.a0;have a1:=W0'.out.a1;have BF:Hid (∀ w',Gw W w'->w'.cell? ⟨w.heap.size,0,none⟩=some (.int .u64 x)/\w'.cell? ⟨w.heap.size,1,none⟩=some (.int .i64 ((n:Int)-e))):=fun w' G=>⟨(G.cell _ _ (by rw [W0'.out.size];omega)).trans W0'.out.a0,(G.cell _ _ (by rw [W0'.out.size];omega)).trans W0'.out.a1⟩
 have a2:w.heap.size+1<W.heap.size:=by rw [W0'.out.size];omega
 have a3:w.heap.size<W.heap.size:=by omega
 go_cut [7] (fun s7 wc=>∃ (b:Nat) (xq yq:Int),s7=.pointer (some ⟨b,0,none⟩)/\Aside (Bx wc b 208 (.int .i64 ((n:Int)-e-yq)) (.int .u64 (x-xq)))/\Aside (PL e f n x xq yq)/\Aside (W.heap.size<=b)/\Aside (Gw W wc))
 case first =>
  go_region_with (first
   | (go_at_call 169;refine (T1.out _ (W0'.out.gw.trans (by repeat (first | exact Gw.refl _ | refine Gw.drew ?_ | refine Gw.alloc ?_ _ _)))).mono ?_;rintro ex w4 ⟨⟨xq,yq,rfl,hP⟩,g4⟩;have G4:Hid (Gw W w4):=(Gw.trans (by repeat (first | exact Gw.refl _ | refine Gw.drew ?_ | refine Gw.alloc ?_ _ _)) g4);obtain ⟨y0,y1⟩:=BF.out w4 G4.out;have y2:w.heap.size<w4.heap.size:=Nat.lt_of_lt_of_le a3 G4.out.size;have HP:Hid (PL e f n x xq yq):=hP;(first | (have n4:Bx w4 W.heap.size 208 (.int .i64 0) (.int .u64 0):=((Bx.new W 208 (.int .i64 0) (.int .u64 0)).gw ((Gw.refl _).drew.trans g4));have N4:Hid (Bx w4 W.heap.size 208 (.int .i64 0) (.int .u64 0)):=n4;have z0:=n4.c0;have z1:=n4.c1;have z2:=n4.fz 0;have z3:=n4.fz 1;clear n4) | skip);clear g4 hP)
   | (go_at_call 168;refine (B1.out _ _ HP.out _).mono ?_;rintro ex w5 ⟨rfl,g5⟩;have G5:Hid (Gw W w5):=(Gw.trans G4.out (Gw.trans (by repeat (first | exact Gw.refl _ | refine Gw.drew ?_ | refine Gw.alloc ?_ _ _)) g5));(first | (have N5:Hid (Bx w5 W.heap.size 208 (.int .i64 0) (.int .u64 0)):=(N4.out.gw g5);have z0':=N5.out.c0;have z1':=N5.out.c1;have z2':=N5.out.fz 0;have z3':=N5.out.fz 1) | (have N5:Hid (Bx w5 w4.heap.size 208 (.int .i64 0) (.int .u64 0)):=((Bx.new w4 208 (.int .i64 0) (.int .u64 0)).gw g5);have z0':=N5.out.c0;have z1':=N5.out.c1;have z2':=N5.out.fz 0;have z3':=N5.out.fz 1) | skip);clear g5))
  all_goals
   go_wp2_with fail;go_meet
  all_goals
   case rel =>
    first
     | exact ⟨w5.heap.size,xq,yq,rfl,(show Aside _ from Bx.new _ _ _ _),(show Aside _ from HP.out),(show Aside _ from G5.out.size),(show Aside _ from G5.out.alloc _ _)⟩
     | exact ⟨w4.heap.size,xq,yq,rfl,(show Aside _ from N5.out.set _ _),(show Aside _ from HP.out),(show Aside _ from G4.out.size),(show Aside _ from (G5.out.setCell G4.out.size _).setCell G4.out.size _)⟩
     | exact ⟨W.heap.size,xq,yq,rfl,(show Aside _ from N5.out.set _ _),(show Aside _ from HP.out),(show Aside _ from Nat.le_refl _),(show Aside _ from (G5.out.setCell (Nat.le_refl _) _).setCell (Nat.le_refl _) _)⟩
 case rest =>
  obtain ⟨W1,hwx⟩:∃ wx,wx=wc:=⟨_,rfl⟩;subst hwx;obtain ⟨b7,xa,ya,rfl,BX7,HPL,LB7,GA⟩:=hcut;have GW1:Hid (Gw w W1):=W0'.out.gw.trans GA.out;have BF2:Hid (∀ w',Gw W1 w'->w'.cell? ⟨w.heap.size+1,0,none⟩=some (.int .u64 x)/\w'.cell? ⟨w.heap.size+1,1,none⟩=some (.int .i64 ((n:Int)+e))):=fun w' G=>⟨((GA.out.trans G).cell _ _ (by rw [W0'.out.size];omega)).trans W0'.out.b0,((GA.out.trans G).cell _ _ (by rw [W0'.out.size];omega)).trans W0'.out.b1⟩
  have a5:w.heap.size+1<W1.heap.size:=Nat.lt_of_lt_of_le a2 GA.out.size;have a6:=(BF2.out W1 (Gw.refl W1)).1;have a7:=(BF2.out W1 (Gw.refl W1)).2;clear a0 a1 BF;go_wp2_with fail;go_cut [8] (fun s7 wc=>∃ (b:Nat) (xq yq:Int),s7=.pointer (some ⟨b,0,none⟩)/\Aside (Bx wc b 208 (.int .i64 ((n:Int)+e-yq)) (.int .u64 (x-xq)))/\Aside (PT e f n x xq yq)/\Aside (W1.heap.size<=b)/\Aside (Gw W1 wc))
  case first =>
   go_region_with (first
    | (go_at_call 169;refine (T2.out _ (GW1.out.trans (by repeat (first | exact Gw.refl _ | refine Gw.drew ?_ | refine Gw.alloc ?_ _ _)))).mono ?_;rintro ex w4 ⟨⟨xq,yq,rfl,hP⟩,g4⟩;have G4:Hid (Gw W1 w4):=(Gw.trans (by repeat (first | exact Gw.refl _ | refine Gw.drew ?_ | refine Gw.alloc ?_ _ _)) g4);obtain ⟨y0,y1⟩:=BF2.out w4 G4.out;have y2:w.heap.size+1<w4.heap.size:=Nat.lt_of_lt_of_le a5 G4.out.size;have HP:Hid (PT e f n x xq yq):=hP;(first | (have n4:Bx w4 W1.heap.size 208 (.int .i64 0) (.int .u64 0):=((Bx.new W1 208 (.int .i64 0) (.int .u64 0)).gw ((Gw.refl _).drew.trans g4));have N4:Hid (Bx w4 W1.heap.size 208 (.int .i64 0) (.int .u64 0)):=n4;have z0:=n4.c0;have z1:=n4.c1;have z2:=n4.fz 0;have z3:=n4.fz 1;clear n4) | skip);clear g4 hP)
    | (go_at_call 168;refine (B2.out _ _ HP.out _).mono ?_;rintro ex w5 ⟨rfl,g5⟩;have G5:Hid (Gw W1 w5):=(Gw.trans G4.out (Gw.trans (by repeat (first | exact Gw.refl _ | refine Gw.drew ?_ | refine Gw.alloc ?_ _ _)) g5));(first | (have N5:Hid (Bx w5 W1.heap.size 208 (.int .i64 0) (.int .u64 0)):=(N4.out.gw g5);have z0':=N5.out.c0;have z1':=N5.out.c1;have z2':=N5.out.fz 0;have z3':=N5.out.fz 1) | (have N5:Hid (Bx w5 w4.heap.size 208 (.int .i64 0) (.int .u64 0)):=((Bx.new w4 208 (.int .i64 0) (.int .u64 0)).gw g5);have z0':=N5.out.c0;have z1':=N5.out.c1;have z2':=N5.out.fz 0;have z3':=N5.out.fz 1) | skip);clear g5))
   all_goals
    go_wp2_with fail;go_meet
   all_goals
    case rel =>
     first
      | exact ⟨w5.heap.size,xq,yq,rfl,(show Aside _ from Bx.new _ _ _ _),(show Aside _ from HP.out),(show Aside _ from G5.out.size),(show Aside _ from G5.out.alloc _ _)⟩
      | exact ⟨w4.heap.size,xq,yq,rfl,(show Aside _ from N5.out.set _ _),(show Aside _ from HP.out),(show Aside _ from G4.out.size),(show Aside _ from (G5.out.setCell G4.out.size _).setCell G4.out.size _)⟩
      | exact ⟨W1.heap.size,xq,yq,rfl,(show Aside _ from N5.out.set _ _),(show Aside _ from HP.out),(show Aside _ from Nat.le_refl _),(show Aside _ from (G5.out.setCell (Nat.le_refl _) _).setCell (Nat.le_refl _) _)⟩
  case rest =>
   obtain ⟨W2,hwx⟩:∃ wx,wx=wc:=⟨_,rfl⟩;subst hwx;obtain ⟨b8,xb,yb,rfl,BX8,HPT,LB8,GB⟩:=hcut;have GW2:Hid (Gw w W2):=GW1.out.trans GB.out;have X7:Hid (Bx W2 b7 208 (.int .i64 ((n:Int)-e-ya)) (.int .u64 (x-xa))):=BX7.out.gw GB.out;have X8:Hid (Bx W2 b8 208 (.int .i64 ((n:Int)+e-yb)) (.int .u64 (x-xb))):=BX8.out;have L78:b7<b8:=Nat.lt_of_lt_of_le BX7.out.lt LB8.out;have LW7:w.heap.size<=b7:=Nat.le_trans W0'.out.gw.size LB7.out;have LMX:Hid ((((n:Int)-e-ya)*lf<lr*(x-xa)->LowU e (upd f n x) (Prs (n+1)) lr lf)/\(lr*(x-xa)<=((n:Int)-e-ya)*lf->LowU e (upd f n x) (Prs (n+1)) ((n:Int)-e-ya) (x-xa))/\(-10000000<=(n:Int)-e-ya/\(n:Int)-e-ya<=10000000/\0<=x-xa/\x-xa<18446744073709551616)):=by
    obtain ⟨t,ht,q1,q2,q3⟩:=HPL.out;have b1:=kb.bd t ht;have b2:=kb.up.le (show t<=n-1 by omega) (by omega)
    obtain ⟨m1,m2⟩:=low_more UP.out low ht (show (n:Int)-e-ya=(n:Int)-t-2*e by omega) (show x-xa=x-f t by rw [q1]) (fun j hj=>by rw [q1,show (n:Int)-e-ya=(n:Int)-t-2*e by omega];exact q3 j hj)
    exact ⟨m1,fun q=>m2 (by omega),by omega,by omega,by omega,by omega⟩
   have TMX:Hid ((mr*(x-xb)<((n:Int)+e-yb)*mf->TopU e (upd f n x) (Prs (n+1)) mr mf)/\(((n:Int)+e-yb)*mf<=mr*(x-xb)->TopU e (upd f n x) (Prs (n+1)) ((n:Int)+e-yb) (x-xb))/\(0<=(n:Int)+e-yb/\(n:Int)+e-yb<=10000000/\0<=x-xb/\x-xb<18446744073709551616)):=by
    obtain ⟨t,ht,q1,q2,q3⟩:=HPT.out;have b1:=kb.bd t ht;have b2:=kb.up.le (show t<=n-1 by omega) (by omega)
    obtain ⟨m1,m2⟩:=top_more (by omega) UP.out top ht (show (n:Int)+e-yb=(n:Int)-t+2*e by omega) (show x-xb=x-f t by rw [q1]) (fun j hj=>by rw [q1,show (n:Int)+e-yb=(n:Int)-t+2*e by omega];exact q3 j hj)
    exact ⟨m1,fun q=>m2 (by omega),by omega,by omega,by omega,by omega⟩
   clear BX7 BX8 HPL HPT LB7 LB8 GA GB GW1 BF2 a5 a6 a7 W0' a2 a3 T1 T2 B1 B2;generalize (n:Int)-e-ya=r7 at X7 LMX;generalize x-xa=s7 at X7 LMX;generalize (n:Int)+e-yb=r8 at X8 TMX;generalize x-xb=s8 at X8 TMX;have C1:Hid (∀ W,Calls prog 170 #[.agg #[.int .i64 r7,.int .u64 s7],.agg #[.int .i64 lr,.int .u64 lf]] W fun ex w'=>ex=.returned (.int .i64 (cmpi (r7*lf) (lr*s7)))/\Gw W w'):=fun W=>(by
    have q:=LMX.out.2.2;exact compare_any r7 s7 lr lf (by omega) (by omega) (by omega) (by omega) (by have:=sb.l0;omega) (by have:=sb.l1;omega) sb.l2 sb.l3 W)
   have C2:Hid (∀ W,Calls prog 170 #[.agg #[.int .i64 r8,.int .u64 s8],.agg #[.int .i64 mr,.int .u64 mf]] W fun ex w'=>ex=.returned (.int .i64 (cmpi (r8*mf) (mr*s8)))/\Gw W w'):=fun W=>(by
    have q:=TMX.out.2.2;exact compare_any r8 s8 mr mf (by omega) (by omega) (by omega) (by omega) (by have:=sb.m0;omega) (by have:=sb.m1;omega) sb.m2 sb.m3 W)
   have D1:Hid (cmpi (r7*lf) (lr*s7)<0↔r7*lf<lr*s7):=cmpi_neg _ _;have D2:Hid (0<cmpi (r8*mf) (mr*s8)↔mr*s8<r8*mf):=cmpi_pos _ _;generalize cmpi (r7*lf) (lr*s7)=d1 at C1 D1;generalize cmpi (r8*mf) (mr*s8)=d2 at C2 D2;have F2:=HB.out.gw GW2.out;have F2':Hid (Blk W2 p (fcells e n lr lf mr mf (.slice (some ⟨g0,0,none⟩) m0 cap0) (.slice (some ⟨g1,0,none⟩) m1 cap1)) 214):=F2;have lp2:=F2.lt;have k0:=GX.cell X7.out.c0 X7.out.lt;have k1:=GX.cell X7.out.c1 X7.out.lt;have k2:=GX.cell (F2.cell (o:=2) (v:=.int .i64 lr) rfl) lp2;have k3:=GX.cell (F2.cell (o:=3) (v:=.int .u64 lf) rfl) lp2;have NN:=GX.some W2;clear F2;go_wp2_with fail;refine wp_region_growx (by kernel_rfl) (by kernel_rfl) ?_
   repeat (go_big_quiet_step (fail))
   go_big_quiet_want;go_big_quiet_op
   go_big_quiet_call (exact growx_of (C1.out _))
   repeat (go_big_quiet_step (fail))
   refine wpQuiet_nil ?_;rintro _ ⟨gx,rfl⟩;clear k0 k1 k2 k3;obtain ⟨W3,hW3⟩:∃ W3,W3=gx.1:=⟨_,rfl⟩;have G3:Hid (Gw W2 W3):=by rw [hW3];exact gx.2
   rw [<-hW3];clear hW3 gx;go_upto_if 31 with fail;have X73:Hid (Bx W3 b7 208 (.int .i64 r7) (.int .u64 s7)):=X7.out.gw G3.out;have X83:Hid (Bx W3 b8 208 (.int .i64 r8) (.int .u64 s8)):=X8.out.gw G3.out;have GW3:Hid (Gw w W3):=GW2.out.trans G3.out;have F3:Hid (Blk W3 p (fcells e n lr lf mr mf (.slice (some ⟨g0,0,none⟩) m0 cap0) (.slice (some ⟨g1,0,none⟩) m1 cap1)) 214):=F2'.out.gw G3.out;clear X7 X8 GW2 F2' G3 NN lp2;go_cut [] (fun wc=>∃ (ra sa:Int),Aside (Bx wc b7 208 (.int .i64 ra) (.int .u64 sa))/\Aside (LowU e (upd f n x) (Prs (n+1)) ra sa/\0<=ra/\ra<=10000000/\0<=sa/\sa<18446744073709551616)/\Aside (Bx wc b8 208 (.int .i64 r8) (.int .u64 s8))/\Aside (Gw w wc))
   case first =>
    by_cases hd:d1<0
    ·have q0:=X73.out.c0
     have q1:=X73.out.c1;have q2:=X73.out.fz 0;have q3:=X73.out.fz 1;have q4:=F3.out.cell (o:=2) (v:=.int .i64 lr) rfl;have q5:=F3.out.cell (o:=3) (v:=.int .u64 lf) rfl;have LU:Hid (LowU e (upd f n x) (Prs (n+1)) lr lf):=LMX.out.1 (D1.out.1 hd);have RR:Hid (Bx ((W3.setCell ⟨b7,0,none⟩ (.int .i64 lr)).setCell ⟨b7,1,none⟩ (.int .u64 lf)) b7 208 (.int .i64 lr) (.int .u64 lf)/\Bx ((W3.setCell ⟨b7,0,none⟩ (.int .i64 lr)).setCell ⟨b7,1,none⟩ (.int .u64 lf)) b8 208 (.int .i64 r8) (.int .u64 s8)/\Gw w ((W3.setCell ⟨b7,0,none⟩ (.int .i64 lr)).setCell ⟨b7,1,none⟩ (.int .u64 lf))):=⟨X73.out.set _ _,(X83.out.far _ (by omega)).far _ (by omega),(GW3.out.setCell LW7 _).setCell LW7 _⟩
     clear C1 C2 LMX TMX D1 D2 low top kb;go_wp2_with fail;go_meet
     case rel=>exact ⟨lr,lf,(show Aside _ from RR.out.1),(show Aside _ from ⟨LU.out,sb.l0,sb.l1,sb.l2,sb.l3⟩),(show Aside _ from RR.out.2.1),(show Aside _ from RR.out.2.2)⟩
    ·have LU:Hid (LowU e (upd f n x) (Prs (n+1)) r7 s7):=LMX.out.2.1 (by have h2:¬ r7*lf<lr*s7:=fun q=>hd (D1.out.2 q);omega)
     have BB:Hid (0<=r7/\r7<=10000000/\0<=s7/\s7<18446744073709551616):=⟨LU.out.a0,LMX.out.2.2.2.1,LMX.out.2.2.2.2⟩;clear C1 C2 LMX TMX D1 D2 low top kb;go_wp2_with fail;go_meet
     case rel=>exact ⟨r7,s7,(show Aside _ from X73.out),(show Aside _ from ⟨LU.out,BB.out⟩),(show Aside _ from X83.out),(show Aside _ from GW3.out)⟩
   case rest =>
    obtain ⟨W4,hwx⟩:∃ wx,wx=wc:=⟨_,rfl⟩;subst hwx;obtain ⟨ra,sa,X74,LL,X84,GW4⟩:=hcut;have F4:Hid (Blk W4 p (fcells e n lr lf mr mf (.slice (some ⟨g0,0,none⟩) m0 cap0) (.slice (some ⟨g1,0,none⟩) m1 cap1)) 214):=HB.out.gw GW4.out;have lp4:=F4.out.lt;have k0:=GX.cell X84.out.c0 X84.out.lt;have k1:=GX.cell X84.out.c1 X84.out.lt;have k2:=GX.cell (F4.out.cell (o:=4) (v:=.int .i64 mr) rfl) lp4;have k3:=GX.cell (F4.out.cell (o:=5) (v:=.int .u64 mf) rfl) lp4;have NN:=GX.some W4;clear X73 X83 GW3 F3;go_wp2_with fail;refine wp_region_growx (by kernel_rfl) (by kernel_rfl) ?_
    repeat (go_big_quiet_step (fail))
    go_big_quiet_want;go_big_quiet_op
    go_big_quiet_call (exact growx_of (C2.out _))
    repeat (go_big_quiet_step (fail))
    refine wpQuiet_nil ?_;rintro _ ⟨gx,rfl⟩;clear k0 k1 k2 k3;obtain ⟨W5,hW5⟩:∃ W5,W5=gx.1:=⟨_,rfl⟩;have G5:Hid (Gw W4 W5):=by rw [hW5];exact gx.2
    rw [<-hW5];clear hW5 gx;go_upto_if 42 with fail;have X75:Hid (Bx W5 b7 208 (.int .i64 ra) (.int .u64 sa)):=X74.out.gw G5.out;have X85:Hid (Bx W5 b8 208 (.int .i64 r8) (.int .u64 s8)):=X84.out.gw G5.out;have GW5:Hid (Gw w W5):=GW4.out.trans G5.out;have F5:Hid (Blk W5 p (fcells e n lr lf mr mf (.slice (some ⟨g0,0,none⟩) m0 cap0) (.slice (some ⟨g1,0,none⟩) m1 cap1)) 214):=F4.out.gw G5.out;have LW8:w.heap.size<=b8:=by omega
    clear X74 X84 GW4 F4 G5 NN lp4;go_cut [] (fun wc=>∃ (rb sc:Int),Aside (Bx wc b8 208 (.int .i64 rb) (.int .u64 sc))/\Aside (TopU e (upd f n x) (Prs (n+1)) rb sc/\0<=rb/\rb<=10000000/\0<=sc/\sc<18446744073709551616)/\Aside (Bx wc b7 208 (.int .i64 ra) (.int .u64 sa))/\Aside (Gw w wc))
    case first =>
     by_cases hd:0<d2
     ·have q0:=X85.out.c0
      have q1:=X85.out.c1;have q2:=X85.out.fz 0;have q3:=X85.out.fz 1;have q4:=F5.out.cell (o:=4) (v:=.int .i64 mr) rfl;have q5:=F5.out.cell (o:=5) (v:=.int .u64 mf) rfl;have LU:Hid (TopU e (upd f n x) (Prs (n+1)) mr mf):=TMX.out.1 (D2.out.1 hd);have RR:Hid (Bx ((W5.setCell ⟨b8,0,none⟩ (.int .i64 mr)).setCell ⟨b8,1,none⟩ (.int .u64 mf)) b8 208 (.int .i64 mr) (.int .u64 mf)/\Bx ((W5.setCell ⟨b8,0,none⟩ (.int .i64 mr)).setCell ⟨b8,1,none⟩ (.int .u64 mf)) b7 208 (.int .i64 ra) (.int .u64 sa)/\Gw w ((W5.setCell ⟨b8,0,none⟩ (.int .i64 mr)).setCell ⟨b8,1,none⟩ (.int .u64 mf))):=⟨X85.out.set _ _,(X75.out.far _ (by omega)).far _ (by omega),(GW5.out.setCell LW8 _).setCell LW8 _⟩
      clear C1 C2 LMX TMX D1 D2 low top kb;go_wp2_with fail;go_meet
      case rel=>exact ⟨mr,mf,(show Aside _ from RR.out.1),(show Aside _ from ⟨LU.out,sb.m0,sb.m1,sb.m2,sb.m3⟩),(show Aside _ from RR.out.2.1),(show Aside _ from RR.out.2.2)⟩
     ·have LU:Hid (TopU e (upd f n x) (Prs (n+1)) r8 s8):=TMX.out.2.1 (by have h2:¬ mr*s8<r8*mf:=fun q=>hd (D2.out.2 q);omega)
      have BB:Hid (0<=r8/\r8<=10000000/\0<=s8/\s8<18446744073709551616):=TMX.out.2.2;clear C1 C2 LMX TMX D1 D2 low top kb;go_wp2_with fail;go_meet
      case rel=>exact ⟨r8,s8,(show Aside _ from X85.out),(show Aside _ from ⟨LU.out,BB.out⟩),(show Aside _ from X75.out),(show Aside _ from GW5.out)⟩
    case rest =>
     obtain ⟨W6,hwx⟩:∃ wx,wx=wc:=⟨_,rfl⟩;subst hwx;obtain ⟨rb,sc,X86,TT,X76,GW6⟩:=hcut;have sc0:sc≠0:=by
      rcases TT.out.1 with ⟨_,_,no⟩ | ⟨_,q,_⟩
      ·exact absurd ⟨hn,by omega⟩ (no 0 n)
      ·omega
     have FI:Hid (ra*sc<=rb*sa↔FitsOn e (upd f n x) (Prs (n+1))):=fitsU (by omega) (prs_pairs UP.out) LL.out.1 TT.out.1 sc0
     have C3:Hid (∀ W,Calls prog 170 #[.agg #[.int .i64 ra,.int .u64 sa],.agg #[.int .i64 rb,.int .u64 sc]] W fun ex w'=>ex=.returned (.int .i64 (cmpi (ra*sc) (rb*sa)))/\Gw W w'):=fun W=>(by
      have q:=LL.out.2;have q':=TT.out.2;exact compare_any ra sa rb sc (by omega) (by omega) (by omega) (by omega) (by omega) (by omega) (by omega) (by omega) W)
     have D3:Hid (0<cmpi (ra*sc) (rb*sa)↔rb*sa<ra*sc):=cmpi_pos _ _;generalize cmpi (ra*sc) (rb*sa)=d3 at C3 D3;have F6:Hid (Blk W6 p (fcells e n lr lf mr mf (.slice (some ⟨g0,0,none⟩) m0 cap0) (.slice (some ⟨g1,0,none⟩) m1 cap1)) 214):=HB.out.gw GW6.out;have q0:=X86.out.c0;have q1:=X86.out.c1;have q2:=X76.out.c0;have q3:=X76.out.c1;clear X75 X85 GW5 F5 C1 C2 LMX TMX D1 D2 low top kb sc0;go_wp2_with fail;refine (C3.out _).mono ?_;rintro ex W7 ⟨rfl,g7⟩;have X87:Hid (Bx W7 b8 208 (.int .i64 rb) (.int .u64 sc)):=X86.out.gw g7;have X77:Hid (Bx W7 b7 208 (.int .i64 ra) (.int .u64 sa)):=X76.out.gw g7;have GW7:Hid (Gw w W7):=GW6.out.trans g7;have F7:Hid (Blk W7 p (fcells e n lr lf mr mf (.slice (some ⟨g0,0,none⟩) m0 cap0) (.slice (some ⟨g1,0,none⟩) m1 cap1)) 214):=F6.out.gw g7;clear q0 q1 q2 q3 g7 C3;by_cases hd:0<d3
     ·have NF:Hid (¬ FitsOn e (upd f n x) (Prs (n+1))):=fun q=>(by have h1:=FI.out.2 q;have h2:=D3.out.1 hd;omega)
      clear FI D3;go_wp2_with fail;go_ret;exact ⟨false,by simp,⟨fun q=>Bool.noConfusion q,fun q=>absurd q NF.out⟩,fun _=>GW7.out,fun q=>Bool.noConfusion q⟩
     ·have YF:Hid (FitsOn e (upd f n x) (Prs (n+1))):=FI.out.1 (by have h2:¬ rb*sa<ra*sc:=fun q=>hd (D3.out.2 q);omega)
      have q0:=X87.out.c0;have q1:=X87.out.c1;have q2:=X77.out.c0;have q3:=X77.out.c1;have q4:=F7.out.cell (o:=2) (v:=.int .i64 lr) rfl;have q5:=F7.out.cell (o:=3) (v:=.int .u64 lf) rfl;have q6:=F7.out.cell (o:=4) (v:=.int .i64 mr) rfl;have q7:=F7.out.cell (o:=5) (v:=.int .u64 mf) rfl;have q8:=F7.out.fz 2;have q9:=F7.out.fz 3;have q10:=F7.out.fz 4;have q11:=F7.out.fz 5;have n7:p≠b7:=by omega
      have n8:p≠b8:=by omega
      clear FI D3;go_wp2_with fail;go_region
      all_goals
       clear q0 q1 q2 q3 q4 q5 q6 q7 q8 q9 q10 q11;have FB:Hid (Blk ((((W7.setCell ⟨p,2,none⟩ (.int .i64 ra)).setCell ⟨p,3,none⟩ (.int .u64 sa)).setCell ⟨p,4,none⟩ (.int .i64 rb)).setCell ⟨p,5,none⟩ (.int .u64 sc)) p (fcells e n ra sa rb sc (.slice (some ⟨g0,0,none⟩) m0 cap0) (.slice (some ⟨g1,0,none⟩) m1 cap1)) 214):=(((F7.out.set 2 _).set 3 _).set 4 _).set 5 _;have GB:Hid (Gs (fun q=>q=p) w ((((W7.setCell ⟨p,2,none⟩ (.int .i64 ra)).setCell ⟨p,3,none⟩ (.int .u64 sa)).setCell ⟨p,4,none⟩ (.int .i64 rb)).setCell ⟨p,5,none⟩ (.int .u64 sc))):=((((GW7.out.gs (fun q=>q=p)).set rfl _ _).set rfl _ _).set rfl _ _).set rfl _ _
       go_wp2_with fail;go_ret
       exact ⟨true,by simp,⟨fun _=>YF.out,fun _=>rfl⟩,fun q=>Bool.noConfusion q,fun _=>⟨⟨ra,sa,rb,sc,FB.out,LL.out.1,TT.out.1,⟨LL.out.2.1,LL.out.2.2.1,LL.out.2.2.2.1,LL.out.2.2.2.2,TT.out.2.1,TT.out.2.2.1,TT.out.2.2.2.1,TT.out.2.2.2.2⟩⟩,GB.out.drew⟩⟩
end Go.Proofs.YtemijdhemdhclaaGreat
