/- The document's 'down': a slope times a distance, rounded down. -/
import Derived.WalkSmall
import Derived.Test.YteflpamjgaeaiaaGreatUL5Of
import Derived.Test.YteflpamjgaeaiaaGreatUPN5
set_option linter.unusedVariables false
set_option maxHeartbeats 16000000
set_option maxRecDepth 100000
open Go.Proofs.Tryz
namespace Go.Proofs.YteflpamjgaeaiaaGreat
open Go.RowKit
attribute [local go_sem] frozen?_alloc_cells frozen?_new
theorem Bx.drw5 {w:World} {b:Nat} {t:TypeId} {u v:Value} (h:Bx w b t u v):Bx w.drew b t u v:=h
theorem down_any (a b c d:Int) (a0:0<=a) (a1:a<18446744073709551616) (b0:0<b) (b1:b<18446744073709551616) (d0:0<=d) (d1:d<18446744073709551616) (w:World) :
  Calls prog 186 #[.agg #[.int .u64 a,.int .u64 b,.int .i64 c],.int .u64 d] w fun ex w'=>ex=.returned (.tuple #[.int .i64 (if 2305843009213693952<a*d/b then 0 else a*d/b),.bool (!decide (2305843009213693952<a*d/b))])/\Gw w w':=by
 have hb:(b == 0)=false:=by simp;omega
 have P:Hid _:=parts5 a0 a1 b0 b1 d0 d1;have SUM:Hid _:=P.out.sum b0;obtain ⟨Q,hQ⟩:∃ Q,a*d/b=Q:=⟨_,rfl⟩;rw [hQ] at SUM ⊢;obtain ⟨W,hW⟩:∃ W,a/b=W:=⟨_,rfl⟩;obtain ⟨R,hR⟩:∃ R,a%b=R:=⟨_,rfl⟩;rw [hW,hR] at P SUM;have W0:0<=W:=P.out.w0;have W1:W<18446744073709551616:=by rw [<-hW];exact Int.lt_of_le_of_lt (Int.ediv_le_self _ a0) a1
 have R0:0<=R:=P.out.r0;have R1:R<18446744073709551616:=by have:=P.out.r1;omega
 clear hQ;by_cases cut:0<W/\2305843009213693952/W<d
 ·obtain ⟨t1,t2⟩:=cut
  have big:2305843009213693952<Q:=by
   have h1:=(cut_far t1 d0).1 t2;have h2:=SUM.out;have h3:=P.out.o0;have h4:=P.out.t0;split at h2<;>omega
  have bt:decide (2305843009213693952<Q)=true:=by simp;omega
  have t1':decide (0<W)=true:=by simp;omega
  have wz:(W == 0)=false:=by simp;omega
  have t2':decide (2305843009213693952/W<d)=true:=by simpa using t2
  rw [if_pos big,bt];clear big bt t2 SUM P;go_enter func186,ntmps186;go_wp2_with fail;exact bodyPost_ret (v:=.tuple #[.int .i64 0,.bool false]) (by simp [results,results186,go_sem]) rfl ⟨rfl,(Gw.refl w).alloc _ _⟩
 ·have small:W*d<=2305843009213693952:=by
   by_cases z:0<W
   ·have:=mt (cut_far z d0).2 (fun q=>cut ⟨z,q⟩)
    omega
   ·have:W=0:=by omega
    rw [this,Int.zero_mul];omega
  have tc:(decide (0<W)&&decide (2305843009213693952/W<d))=false:=by simpa using cut
  obtain ⟨M,hM⟩:∃ M,W*d=M:=⟨_,rfl⟩;have M0:0<=M:=by rw [<-hM];exact Int.mul_nonneg W0 d0
  rw [hM] at small SUM;have ew:IntKind.u64.wrap M=M:=by rw [IntKind.wrap_u64];omega
  have tt:(0<W/\decide (0<W)=true/\(W == 0)=false/\decide (2305843009213693952/W<d)=false)\/decide (0<W)=false:=by
   by_cases z:0<W
   ·have t1':decide (0<W)=true:=by simp;omega
    exact .inl ⟨z,t1',by simp;omega,by simpa [t1'] using tc⟩
   ·exact .inr (by simp;omega)
  clear cut tc;obtain ⟨V,hV⟩:∃ V,Hid ((if 2305843009213693952<Q then 0 else Q)=V):=⟨_,(rfl:_=_)⟩
  obtain ⟨z,hz⟩:∃ z,Hid ((!decide (2305843009213693952<Q))=z):=⟨_,(rfl:_=_)⟩;rw [hV.out,hz.out];have VB:Hid (2305843009213693952<Q->V=0/\z=false):=fun k=>⟨by rw [<-hV.out,if_pos k],by rw [<-hz.out];simp [k]⟩
  have VG:Hid (Q<=2305843009213693952->V=Q/\z=true):=fun k=>⟨by rw [<-hV.out,if_neg (by omega)],by rw [<-hz.out];simp;omega⟩
  clear hV hz;have hH:∃ H,R/2=H:=⟨_,rfl⟩;obtain ⟨H,hH⟩:=hH;have hL:∃ L,R%2=L:=⟨_,rfl⟩;obtain ⟨L,hL⟩:=hL;have H0:0<=H/\H<9223372036854775808:=by omega
  have L0:0<=L/\L<2:=by omega
  rw [hH,hL] at P SUM;have hwh:IntKind.i64.wrap H=H:=by rw [IntKind.wrap_i64];omega
  have hwl:IntKind.i64.wrap L=L:=by rw [IntKind.wrap_i64];omega
  have hbits:bits BinOp.and IntKind.u64 R 1=L:=by rw [and_one_u64 R R0 (by omega)];exact hL
  obtain ⟨X,hX⟩:∃ X,H*d=X:=⟨_,rfl⟩;obtain ⟨Z,hZ⟩:∃ Z,L*d=Z:=⟨_,rfl⟩;rw [hX,hZ] at P SUM;have X0:0<=X/\X+Z<170141183460469231731687303715884105728/\0<=Z:=by
   have h1:H*d+L*d<=9223372036854775808*d:=by
    rw [<-Int.add_mul];exact Int.mul_le_mul_of_nonneg_right (by omega) d0
   have h2:0<=H*d:=Int.mul_nonneg H0.1 d0;have h3:0<=L*d:=Int.mul_nonneg L0.1 d0;omega
  obtain ⟨o,ho⟩:∃ o,X/b=o:=⟨_,rfl⟩;obtain ⟨A,hA⟩:∃ A,X%b=A:=⟨_,rfl⟩;obtain ⟨t,ht⟩:∃ t,(X+Z)/b=t:=⟨_,rfl⟩;obtain ⟨B,hB⟩:∃ B,(X+Z)%b=B:=⟨_,rfl⟩;have T1:Hid (∀ w:World,Calls prog 210 #[.int .i64 H,.int .u64 d] w fun e w'=>e=.returned (.agg #[.int .i64 (hiv (X)),.int .u64 (lov (X))])/\Gb w w'):=fun w=>by
   have:=rtimes_any H d (by omega) (by omega) d0 d1 w
   rw [hX] at this;exact this
  have T2:Hid (∀ w:World,Calls prog 210 #[.int .i64 L,.int .u64 d] w fun e w'=>e=.returned (.agg #[.int .i64 (hiv (Z)),.int .u64 (lov (Z))])/\Gb w w'):=fun w=>by
   have:=rtimes_any L d (by omega) (by omega) d0 d1 w
   rw [hZ] at this;exact this
  have D1:Hid (∀ w:World,Calls prog 209 #[.agg #[.int .i64 (hiv (X)),.int .u64 (lov (X))],.int .u64 b] w fun e w'=>e=.returned (.tuple #[.agg #[.int .i64 (hiv (o)),.int .u64 (lov (o))],.int .u64 A,.int .i64 0])/\Gb w w'):=fun w=>by
   have:=rdiv_any X b b0 b1 w
   rw [sv_of X (by omega) (by omega),ho,hA] at this
   exact this
  have D2:Hid (∀ w:World,Calls prog 209 #[.agg #[.int .i64 (hiv (X+Z)),.int .u64 (lov (X+Z))],.int .u64 b] w fun e w'=>e=.returned (.tuple #[.agg #[.int .i64 (hiv (t)),.int .u64 (lov (t))],.int .u64 B,.int .i64 0])/\Gb w w'):=fun w=>by
   have:=rdiv_any (X+Z) b b0 b1 w
   rw [sv_of (X+Z) (by omega) (by omega),ht,hB] at this
   exact this
  have AD:Hid (∀ w:World,Calls prog 211 #[.agg #[.int .i64 (hiv (X)),.int .u64 (lov (X))],.agg #[.int .i64 (hiv (Z)),.int .u64 (lov (Z))]] w fun e w'=>e=.returned (.agg #[.int .i64 (hiv (X+Z)),.int .u64 (lov (X+Z))])/\Gb w w'):=fun w=>radd_any X Z w
  rw [ho,hA,ht,hB] at P SUM;have PP:Hid ((0<=o/\0<=t/\o+t<=d)/\(0<=A/\A<b)/\(0<=B/\B<b)):=⟨⟨P.out.o0,P.out.t0,P.out.lt⟩,⟨P.out.a0,P.out.a1⟩,P.out.b0,P.out.b1⟩;have P1:Hid (b-B<=A->o+t+1<=d):=fun k=>P.out.carry b0 k
  clear P hX hZ ho hA ht hB X0;have c1:(w.alloc (.cells #[.int .u64 a,.int .u64 b,.int .i64 c] 218)).cell? ⟨w.heap.size,1,none⟩=some (.int .u64 b):=by simp [go_sem]
  have l1:w.heap.size<(w.alloc (.cells #[.int .u64 a,.int .u64 b,.int .i64 c] 218)).heap.size:=by simp
  have G0:Aside (Gw w (w.alloc (.cells #[.int .u64 a,.int .u64 b,.int .i64 c] 218))):=(Gw.refl w).alloc _ _;go_enter func186,ntmps186;rcases tt with ⟨t1,t1',wz,t2'⟩ | t1'
  all_goals
   go_wp2_with fail
   (try rw [hW]);(try rw [hR])
   generalize w.alloc (.cells #[.int .u64 a,.int .u64 b,.int .i64 c] 218)=wx at c1 l1 G0 ⊢;obtain ⟨N,hN⟩:∃ N,w.heap.size=N:=⟨_,rfl⟩;rw [hN] at c1 l1 ⊢;clear hN;have BF:Hid (∀ w',Gw wx w'->w'.cell? ⟨N,1,none⟩=some (.int .u64 b)/\N<w'.heap.size):=fun w' g=>⟨(g.cell _ _ l1).trans c1,Nat.lt_of_lt_of_le l1 g.size⟩
   go_cut [9,10] (fun s s' w'=>∃ q,s=.pointer (some ⟨q,0,none⟩)/\s'=.int .u64 A/\Aside (Bx w' q 283 (.int .i64 (hiv o)) (.int .u64 (lov o)))/\Aside (wx.heap.size<=q)/\Aside (Gw wx w'))
   case first =>
    go_region_with (first
     | (go_at_call 210;refine (T1.out _).mono ?_;rintro ex w4 ⟨rfl,gw4'⟩;have gw4:=gw4'.gw;have Gw4:Hid (Gw wx w4):=(Gw.trans (by repeat (first | exact Gw.refl _ | exact Hid.out (by assumption) | refine Gw.drew ?_ | refine Gw.alloc ?_ _ _)) gw4);obtain ⟨yw4,lw4⟩:=BF.out w4 Gw4.out;(first | (have Nw4:Hid (Bx w4 _ 283 (.int .i64 0) (.int .u64 0)):=(Bx.gw (by first | exact Bx.new _ _ _ _ | exact Bx.drw5 (Bx.new _ _ _ _) | exact Hid.out (by assumption) | exact Bx.drw5 (Hid.out (by assumption))) gw4);have z0w4:=Nw4.out.c0;have z1w4:=Nw4.out.c1;have z2w4:=Nw4.out.fz 0;have z3w4:=Nw4.out.fz 1) | skip);clear gw4 gw4')
     | (go_at_call 209;refine (D1.out _).mono ?_;rintro ex w5 ⟨rfl,gw5'⟩;have gw5:=gw5'.gw;have Gw5:Hid (Gw wx w5):=(Gw.trans (by repeat (first | exact Gw.refl _ | exact Hid.out (by assumption) | refine Gw.drew ?_ | refine Gw.alloc ?_ _ _)) gw5);obtain ⟨yw5,lw5⟩:=BF.out w5 Gw5.out;(first | (have Nw5:Hid (Bx w5 _ 283 (.int .i64 0) (.int .u64 0)):=(Bx.gw (by first | exact Bx.new _ _ _ _ | exact Bx.drw5 (Bx.new _ _ _ _) | exact Hid.out (by assumption) | exact Bx.drw5 (Hid.out (by assumption))) gw5);have z0w5:=Nw5.out.c0;have z1w5:=Nw5.out.c1;have z2w5:=Nw5.out.fz 0;have z3w5:=Nw5.out.fz 1) | skip);clear gw5 gw5'))
    all_goals go_wp2_with fail
    all_goals go_meet
    all_goals
     case rel =>
      first
       | exact ⟨w5.heap.size,rfl,rfl,(show Aside _ from Bx.new _ _ _ _),(show Aside _ from Gw5.out.size),(show Aside _ from Gw5.out.alloc _ _)⟩
       | exact ⟨w4.heap.size,rfl,rfl,(show Aside _ from Nw5.out.set _ _),(show Aside _ from Gw4.out.size),(show Aside _ from (Gw5.out.setCell Gw4.out.size _).setCell Gw4.out.size _)⟩
       | exact ⟨wx.heap.size,rfl,rfl,(show Aside _ from Nw5.out.set _ _),(show Aside _ from Nat.le_refl _),(show Aside _ from (Gw5.out.setCell (Nat.le_refl _) _).setCell (Nat.le_refl _) _)⟩
   case rest =>
    obtain ⟨wy,hwy⟩:∃ wy,wy=wc:=⟨_,rfl⟩;subst hwy;obtain ⟨q,rfl,rfl,XO,lq,gy⟩:=hcut;have GY:Aside (Gw w wy):=G0.out.trans gy.out;obtain ⟨c1y,l1y⟩:=BF.out wy gy.out;clear BF c1 l1 G0 gy lq D1;have BF:Hid (∀ w',Gw wy w'->w'.cell? ⟨N,1,none⟩=some (.int .u64 b)/\N<w'.heap.size):=fun w' g=>⟨(g.cell _ _ l1y).trans c1y,Nat.lt_of_lt_of_le l1y g.size⟩
    go_wp2_with fail;go_cut [12,13] (fun s s' w'=>∃ q',s=.pointer (some ⟨q',0,none⟩)/\s'=.int .u64 B/\Aside (Bx w' q' 283 (.int .i64 (hiv t)) (.int .u64 (lov t)))/\Aside (wy.heap.size<=q')/\Aside (Gw wy w'))
    case first =>
     have HKV:Hid (∀ w',Gb wy w'->Gb wy w'/\w'.cell? ⟨N,1,none⟩=some (.int .u64 b)):=fun w' g=>⟨g,(g.cell _ _ l1y).trans c1y⟩
     go_region_held3 (fun w'=>Gb wy w'/\w'.cell? ⟨N,1,none⟩=some (.int .u64 b))
      ((refine HKV.out _ ?_;(repeat (first | exact Gb.refl _ | exact And.left (by assumption) | exact Hid.out (by assumption) | refine Gb.drew ?_ | refine Gb.alloc ?_ _ _ | refine Gb.setCell ?_ (by first | (simp;done) | omega | exact Hid.out (by assumption)) _ | refine Gb.trans ?_ (by assumption)));done))
      (first
      | (go_at_call_of 210 (Value.int IntKind.i64 H);refine (T1.out _).mono ?_;rintro ex w4 ⟨rfl,gw4'⟩;have gw4:=gw4'.gw;have Bw4:Hid (Gb wy w4):=(Gb.trans (by repeat (first | exact Gb.refl _ | exact And.left (by assumption) | exact Hid.out (by assumption) | refine Gb.drew ?_ | refine Gb.alloc ?_ _ _)) gw4');have Lw4:Hid (wy.heap.size<=w4.heap.size):=Bw4.out.size;have Gw4:Hid (Gw wy w4):=(Gw.trans (by repeat (first | exact Gw.refl _ | exact Hid.out (by assumption) | refine Gw.drew ?_ | refine Gw.alloc ?_ _ _)) gw4);obtain ⟨yw4,lw4⟩:=BF.out w4 Gw4.out;(first | (have Nw4:Hid (Bx w4 _ 283 (.int .i64 0) (.int .u64 0)):=(Bx.gw (by first | exact Bx.new _ _ _ _ | exact Bx.drw5 (Bx.new _ _ _ _) | exact Hid.out (by assumption) | exact Bx.drw5 (Hid.out (by assumption))) gw4);have z0w4:=Nw4.out.c0;have z1w4:=Nw4.out.c1;have z2w4:=Nw4.out.fz 0;have z3w4:=Nw4.out.fz 1) | skip);clear gw4 gw4')
      | (go_at_call_of 210 (Value.int IntKind.i64 L);refine (T2.out _).mono ?_;rintro ex w6 ⟨rfl,gw6'⟩;have gw6:=gw6'.gw;have Bw6:Hid (Gb wy w6):=(Gb.trans (by repeat (first | exact Gb.refl _ | exact And.left (by assumption) | exact Hid.out (by assumption) | refine Gb.drew ?_ | refine Gb.alloc ?_ _ _)) gw6');have Lw6:Hid (wy.heap.size<=w6.heap.size):=Bw6.out.size;have Gw6:Hid (Gw wy w6):=(Gw.trans (by repeat (first | exact Gw.refl _ | exact Hid.out (by assumption) | refine Gw.drew ?_ | refine Gw.alloc ?_ _ _)) gw6);obtain ⟨yw6,lw6⟩:=BF.out w6 Gw6.out;(first | (have Nw6:Hid (Bx w6 _ 283 (.int .i64 0) (.int .u64 0)):=(Bx.gw (by first | exact Bx.new _ _ _ _ | exact Bx.drw5 (Bx.new _ _ _ _) | exact Hid.out (by assumption) | exact Bx.drw5 (Hid.out (by assumption))) gw6);have z0w6:=Nw6.out.c0;have z1w6:=Nw6.out.c1;have z2w6:=Nw6.out.fz 0;have z3w6:=Nw6.out.fz 1) | skip);clear gw6 gw6')
      | (go_at_call 211;refine (AD.out _).mono ?_;rintro ex w7 ⟨rfl,gw7'⟩;have gw7:=gw7'.gw;have Bw7:Hid (Gb wy w7):=(Gb.trans (by repeat (first | exact Gb.refl _ | exact And.left (by assumption) | exact Hid.out (by assumption) | refine Gb.drew ?_ | refine Gb.alloc ?_ _ _)) gw7');have Lw7:Hid (wy.heap.size<=w7.heap.size):=Bw7.out.size;have Gw7:Hid (Gw wy w7):=(Gw.trans (by repeat (first | exact Gw.refl _ | exact Hid.out (by assumption) | refine Gw.drew ?_ | refine Gw.alloc ?_ _ _)) gw7);obtain ⟨yw7,lw7⟩:=BF.out w7 Gw7.out;(first | (have Nw7:Hid (Bx w7 _ 283 (.int .i64 0) (.int .u64 0)):=(Bx.gw (by first | exact Bx.new _ _ _ _ | exact Bx.drw5 (Bx.new _ _ _ _) | exact Hid.out (by assumption) | exact Bx.drw5 (Hid.out (by assumption))) gw7);have z0w7:=Nw7.out.c0;have z1w7:=Nw7.out.c1;have z2w7:=Nw7.out.fz 0;have z3w7:=Nw7.out.fz 1) | skip);clear gw7 gw7')
      | (go_at_call 209;refine (D2.out _).mono ?_;rintro ex w8 ⟨rfl,gw8'⟩;have gw8:=gw8'.gw;have Bw8:Hid (Gb wy w8):=(Gb.trans (by repeat (first | exact Gb.refl _ | exact And.left (by assumption) | exact Hid.out (by assumption) | refine Gb.drew ?_ | refine Gb.alloc ?_ _ _)) gw8');have Lw8:Hid (wy.heap.size<=w8.heap.size):=Bw8.out.size;have Gw8:Hid (Gw wy w8):=(Gw.trans (by repeat (first | exact Gw.refl _ | exact Hid.out (by assumption) | refine Gw.drew ?_ | refine Gw.alloc ?_ _ _)) gw8);obtain ⟨yw8,lw8⟩:=BF.out w8 Gw8.out;(first | (have Nw8:Hid (Bx w8 _ 283 (.int .i64 0) (.int .u64 0)):=(Bx.gw (by first | exact Bx.new _ _ _ _ | exact Bx.drw5 (Bx.new _ _ _ _) | exact Hid.out (by assumption) | exact Bx.drw5 (Hid.out (by assumption))) gw8);have z0w8:=Nw8.out.c0;have z1w8:=Nw8.out.c1;have z2w8:=Nw8.out.fz 0;have z3w8:=Nw8.out.fz 1) | skip);clear gw8 gw8'))
     all_goals go_wp2_with fail
     all_goals go_meet
     all_goals
      case rel =>
       first
        | exact ⟨w8.heap.size,rfl,rfl,(show Aside _ from Bx.new _ _ _ _),(show Aside _ from Gw8.out.size),(show Aside _ from Gw8.out.alloc _ _)⟩
        | exact ⟨w7.heap.size,rfl,rfl,(show Aside _ from Nw8.out.set _ _),(show Aside _ from Gw7.out.size),(show Aside _ from (Gw8.out.setCell Gw7.out.size _).setCell Gw7.out.size _)⟩
        | exact ⟨w6.heap.size,rfl,rfl,(show Aside _ from Nw8.out.set _ _),(show Aside _ from Gw6.out.size),(show Aside _ from (Gw8.out.setCell Gw6.out.size _).setCell Gw6.out.size _)⟩
        | exact ⟨w4.heap.size,rfl,rfl,(show Aside _ from Nw8.out.set _ _),(show Aside _ from Gw4.out.size),(show Aside _ from (Gw8.out.setCell Gw4.out.size _).setCell Gw4.out.size _)⟩
        | exact ⟨wy.heap.size,rfl,rfl,(show Aside _ from Nw8.out.set _ _),(show Aside _ from Nat.le_refl _),(show Aside _ from (Gw8.out.setCell (Nat.le_refl _) _).setCell (Nat.le_refl _) _)⟩
    case rest =>
     obtain ⟨wz,hwz⟩:∃ wz,wz=wc:=⟨_,rfl⟩;subst hwz;obtain ⟨q',rfl,rfl,XT,lq',gz⟩:=hcut;have XO':Aside (Bx wz q 283 (.int .i64 (hiv o)) (.int .u64 (lov o))):=XO.out.gw gz.out;obtain ⟨c1z,l1z⟩:=BF.out wz gz.out;have GZ:Aside (Gw w wz):=GY.out.trans gz.out;clear BF c1y l1y GY gz lq' XO T1 T2 D2 AD;obtain ⟨⟨o0,o1,o2⟩,⟨p1,p2⟩,r1,r2⟩:=PP.out;have eo:lov o=o:=by unfold lov;omega
     have et:lov t=t:=by unfold lov;omega
     have x1:=XO'.out.c1;have x2:=XT.out.c1;rw [eo] at x1;rw [et] at x2;have wot:IntKind.u64.wrap (o+t)=o+t:=by rw [IntKind.wrap_u64];omega
     have wbB:IntKind.u64.wrap (b-B)=b-B:=by rw [IntKind.wrap_u64];omega
     clear XO' XT;by_cases k:b-B<=A
     ·have tk:decide (b-B<=A)=true:=by simpa using k
      have S:=SUM.out;rw [if_pos k] at S;have lt1:o+t+1<18446744073709551616:=by
       have h1:=P1.out k;omega
      have wo1:IntKind.u64.wrap (o+t+1)=o+t+1:=by rw [IntKind.wrap_u64];omega
      obtain ⟨m,hm⟩:∃ m,o+t+1=m:=⟨_,rfl⟩;rw [hm] at wo1;have SQ:Q=M+m:=by omega
      have m0:0<=m/\m<18446744073709551616:=by omega
      clear S;have VB':Hid (2305843009213693952<M+m->V=0/\z=false):=by rw [<-SQ];exact VB.out
      have VG':Hid (M+m<=2305843009213693952->V=M+m/\z=true):=by rw [<-SQ];exact VG.out
      clear SQ VB VG SUM PP;by_cases k2:2305843009213693952<m
      ·have t2:decide (2305843009213693952<m)=true:=by simpa using k2
       go_wp2_with fail;exact bodyPost_ret (v:=.tuple #[.int .i64 0,.bool false]) (by simp [results,results186,go_sem]) rfl ⟨by rw [(VB'.out (by omega)).1,(VB'.out (by omega)).2],GZ.out⟩
      ·have t2:decide (2305843009213693952<m)=false:=by simpa using k2
       have wf:IntKind.u64.wrap (2305843009213693952-m)=2305843009213693952-m:=by rw [IntKind.wrap_u64];omega
       by_cases k3:2305843009213693952-m<M
       ·have t4:decide (2305843009213693952-m<M)=true:=by simpa using k3
        go_wp2_with fail;exact bodyPost_ret (v:=.tuple #[.int .i64 0,.bool false]) (by simp [results,results186,go_sem]) rfl ⟨by rw [(VB'.out (by omega)).1,(VB'.out (by omega)).2],GZ.out⟩
       ·have t4:decide (2305843009213693952-m<M)=false:=by simpa using k3
        have wm:IntKind.u64.wrap (M+m)=M+m:=by rw [IntKind.wrap_u64];omega
        have wi:IntKind.i64.wrap (M+m)=M+m:=by rw [IntKind.wrap_i64];omega
        go_wp2_with fail;exact bodyPost_ret (v:=.tuple #[.int .i64 (M+m),.bool true]) (by simp [results,results186,go_sem]) rfl ⟨by rw [(VG'.out (by omega)).1,(VG'.out (by omega)).2],GZ.out⟩
     ·have tk:decide (b-B<=A)=false:=by simpa using k
      have S:=SUM.out;rw [if_neg k] at S;obtain ⟨m,hm⟩:∃ m,o+t=m:=⟨_,rfl⟩;rw [hm] at wot;have SQ:Q=M+m:=by omega
      have m0:0<=m/\m<18446744073709551616:=by omega
      clear S;have VB':Hid (2305843009213693952<M+m->V=0/\z=false):=by rw [<-SQ];exact VB.out
      have VG':Hid (M+m<=2305843009213693952->V=M+m/\z=true):=by rw [<-SQ];exact VG.out
      clear SQ VB VG SUM PP;by_cases k2:2305843009213693952<m
      ·have t2:decide (2305843009213693952<m)=true:=by simpa using k2
       go_wp2_with fail;exact bodyPost_ret (v:=.tuple #[.int .i64 0,.bool false]) (by simp [results,results186,go_sem]) rfl ⟨by rw [(VB'.out (by omega)).1,(VB'.out (by omega)).2],GZ.out⟩
      ·have t2:decide (2305843009213693952<m)=false:=by simpa using k2
       have wf:IntKind.u64.wrap (2305843009213693952-m)=2305843009213693952-m:=by rw [IntKind.wrap_u64];omega
       by_cases k3:2305843009213693952-m<M
       ·have t4:decide (2305843009213693952-m<M)=true:=by simpa using k3
        go_wp2_with fail;exact bodyPost_ret (v:=.tuple #[.int .i64 0,.bool false]) (by simp [results,results186,go_sem]) rfl ⟨by rw [(VB'.out (by omega)).1,(VB'.out (by omega)).2],GZ.out⟩
       ·have t4:decide (2305843009213693952-m<M)=false:=by simpa using k3
        have wm:IntKind.u64.wrap (M+m)=M+m:=by rw [IntKind.wrap_u64];omega
        have wi:IntKind.i64.wrap (M+m)=M+m:=by rw [IntKind.wrap_i64];omega
        go_wp2_with fail;exact bodyPost_ret (v:=.tuple #[.int .i64 (M+m),.bool true]) (by simp [results,results186,go_sem]) rfl ⟨by rw [(VG'.out (by omega)).1,(VG'.out (by omega)).2],GZ.out⟩
end Go.Proofs.YteflpamjgaeaiaaGreat
namespace Go.Proofs.YteflpamjgaeaiaaGreat
theorem o5c:Of5C:=fun eps ao n cp f p0 p1 hn w h=>of5_any down_any eps ao n cp f p0 p1 hn w h
end Go.Proofs.YteflpamjgaeaiaaGreat
