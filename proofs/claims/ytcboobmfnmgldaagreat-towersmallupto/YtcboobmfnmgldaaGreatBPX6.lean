/- The document's 'down': a slope times a distance, rounded down. -/
import Derived.WalkSmall
import Derived.Test.YtcboobmfnmgldaaGreatBMNear
import Derived.Test.YtcboobmfnmgldaaGreatBL5Of
import Derived.Test.YtcboobmfnmgldaaGreatBPN5
set_option linter.unusedVariables false
set_option maxHeartbeats 16000000
set_option maxRecDepth 100000
open Go.Proofs.Tryz
namespace Go.Proofs.YtcboobmfnmgldaaGreat
open Go.RowKit
attribute [local go_sem] frozen?_alloc_cells dF
theorem Bx.drw5 {w:World} {b:Nat} {t:TypeId} {u v:Value} (h:Bx w b t u v):Bx w.drew b t u v:=h
theorem af3 (a b c d:Int) (a0:0<=a) (a1:a<18446744073709551616) (b0:0<b) (b1:b<18446744073709551616) (d0:0<=d) (d1:d<18446744073709551616) (w:World) :
  Calls prog 133 #[.agg #[By a,By b,AI c],By d] w fun ex w'=>ex=.returned (.tuple #[AI (if 2305843009213693952<a*d/b then 0 else a*d/b),.bool (!decide (2305843009213693952<a*d/b))])/\Gw w w':=by
 have hb:(b == 0)=false:=by simp;omega
 have P:ag _:=XP a0 a1 b0 b1 d0 d1;have lY:ag _:=P.o.sum b0;obtain ⟨Q,hQ⟩:∃ Q,a*d/b=Q:=⟨_,rfl⟩;rw [hQ] at lY ⊢;obtain ⟨W,hW⟩:∃ W,a/b=W:=⟨_,rfl⟩;obtain ⟨R,hR⟩:∃ R,a%b=R:=⟨_,rfl⟩;rw [hW,hR] at P lY;have W0:0<=W:=P.o.w0;have W1:W<18446744073709551616:=by rw [<-hW];exact Int.lt_of_le_of_lt (Int.ediv_le_self _ a0) a1
 have R0:0<=R:=P.o.r0;have R1:R<18446744073709551616:=by have:=P.o.r1;omega
 clear hQ;by_cases cut:0<W/\2305843009213693952/W<d
 ·obtain ⟨t1,t2⟩:=cut
  have cY:2305843009213693952<Q:=by
   have h1:=(KO t1 d0).1 t2;have h2:=lY.o;have h3:=P.o.o0;have h4:=P.o.t0;split at h2<;>omega
  have bt:decide (2305843009213693952<Q)=true:=by simp;omega
  have rC:decide (0<W)=true:=by simp;omega
  have wz:(W == 0)=false:=by simp;omega
  have Fk:decide (2305843009213693952/W<d)=true:=by simpa using t2
  rw [if_pos cY,bt];clear cY bt t2 lY P;go_enter func133,ntmps133;go_wp2_with fail;exact bodyPost_ret (v:=.tuple #[AI 0,.bool false]) (by simp [results,results133,go_sem]) rfl ⟨rfl,(Gw.refl w).alloc _ _⟩
 ·have small:W*d<=2305843009213693952:=by
   by_cases z:0<W
   ·have:=mt (KO z d0).2 (fun q=>cut ⟨z,q⟩)
    omega
   ·have:W=0:=by omega
    rw [this,Int.zero_mul];omega
  have tc:(decide (0<W)&&decide (2305843009213693952/W<d))=false:=by simpa using cut
  obtain ⟨M,hM⟩:∃ M,W*d=M:=⟨_,rfl⟩;have M0:0<=M:=by rw [<-hM];exact Int.mul_nonneg W0 d0
  rw [hM] at small lY;have ew:IntKind.u64.wrap M=M:=by rw [IntKind.wrap_u64];omega
  have tt:(0<W/\decide (0<W)=true/\(W == 0)=false/\decide (2305843009213693952/W<d)=false)\/decide (0<W)=false:=by
   by_cases z:0<W
   ·have rC:decide (0<W)=true:=by simp;omega
    exact .inl ⟨z,rC,by simp;omega,by simpa [rC] using tc⟩
   ·exact .inr (by simp;omega)
  clear cut tc;obtain ⟨V,hV⟩:∃ V,ag ((if 2305843009213693952<Q then 0 else Q)=V):=⟨_,(rfl:_=_)⟩
  obtain ⟨z,hz⟩:∃ z,ag ((!decide (2305843009213693952<Q))=z):=⟨_,(rfl:_=_)⟩;rw [hV.o,hz.o];have VB:ag (2305843009213693952<Q->V=0/\z=false):=fun k=>⟨by rw [<-hV.o,if_pos k],by rw [<-hz.o];simp [k]⟩
  have VG:ag (Q<=2305843009213693952->V=Q/\z=true):=fun k=>⟨by rw [<-hV.o,if_neg (by omega)],by rw [<-hz.o];simp;omega⟩
  clear hV hz;have hH:∃ H,R/2=H:=⟨_,rfl⟩;obtain ⟨H,hH⟩:=hH;have hL:∃ L,R%2=L:=⟨_,rfl⟩;obtain ⟨L,hL⟩:=hL;have H0:0<=H/\H<9223372036854775808:=by omega
  have L0:0<=L/\L<2:=by omega
  rw [hH,hL] at P lY;have hwh:IntKind.i64.wrap H=H:=by rw [IntKind.wrap_i64];omega
  have hwl:IntKind.i64.wrap L=L:=by rw [IntKind.wrap_i64];omega
  have agh:bits BinOp.and IntKind.u64 R 1=L:=by rw [and_one_u64 R R0 (by omega)];exact hL
  obtain ⟨X,hX⟩:∃ X,H*d=X:=⟨_,rfl⟩;obtain ⟨Z,hZ⟩:∃ Z,L*d=Z:=⟨_,rfl⟩;rw [hX,hZ] at P lY;have X0:0<=X/\X+Z<170141183460469231731687303715884105728/\0<=Z:=by
   have h1:H*d+L*d<=9223372036854775808*d:=by
    rw [<-Int.add_mul];exact Int.mul_le_mul_of_nonneg_right (by omega) d0
   have h2:0<=H*d:=Int.mul_nonneg H0.1 d0;have h3:0<=L*d:=Int.mul_nonneg L0.1 d0;omega
  obtain ⟨o,ho⟩:∃ o,X/b=o:=⟨_,rfl⟩;obtain ⟨A,hA⟩:∃ A,X%b=A:=⟨_,rfl⟩;obtain ⟨t,ht⟩:∃ t,(X+Z)/b=t:=⟨_,rfl⟩;obtain ⟨B,hB⟩:∃ B,(X+Z)%b=B:=⟨_,rfl⟩;have T1:ag (∀ w:World,Calls prog 154 #[AI H,By d] w fun e w'=>e=.returned (.agg #[AI (aq (X)),By (av (X))])/\Gb w w'):=fun w=>by
   have:=Wr H d (by omega) (by omega) d0 d1 w
   rw [hX] at this;exact this
  have T2:ag (∀ w:World,Calls prog 154 #[AI L,By d] w fun e w'=>e=.returned (.agg #[AI (aq (Z)),By (av (Z))])/\Gb w w'):=fun w=>by
   have:=Wr L d (by omega) (by omega) d0 d1 w
   rw [hZ] at this;exact this
  have D1:ag (∀ w:World,Calls prog 153 #[.agg #[AI (aq (X)),By (av (X))],By b] w fun e w'=>e=.returned (.tuple #[.agg #[AI (aq (o)),By (av (o))],By A,AI 0])/\Gb w w'):=fun w=>by
   have:=Ws X b b0 b1 w
   rw [oL X (by omega) (by omega),ho,hA] at this
   exact this
  have D2:ag (∀ w:World,Calls prog 153 #[.agg #[AI (aq (X+Z)),By (av (X+Z))],By b] w fun e w'=>e=.returned (.tuple #[.agg #[AI (aq (t)),By (av (t))],By B,AI 0])/\Gb w w'):=fun w=>by
   have:=Ws (X+Z) b b0 b1 w
   rw [oL (X+Z) (by omega) (by omega),ht,hB] at this
   exact this
  have AD:ag (∀ w:World,Calls prog 155 #[.agg #[AI (aq (X)),By (av (X))],.agg #[AI (aq (Z)),By (av (Z))]] w fun e w'=>e=.returned (.agg #[AI (aq (X+Z)),By (av (X+Z))])/\Gb w w'):=fun w=>afN X Z w
  rw [ho,hA,ht,hB] at P lY;have PP:ag ((0<=o/\0<=t/\o+t<=d)/\(0<=A/\A<b)/\(0<=B/\B<b)):=⟨⟨P.o.o0,P.o.t0,P.o.lt⟩,⟨P.o.a0,P.o.a1⟩,P.o.b0,P.o.b1⟩;have P1:ag (b-B<=A->o+t+1<=d):=fun k=>P.o.carry b0 k
  clear P hX hZ ho hA ht hB X0;have c1:(w.alloc (.cells #[By a,By b,AI c] 180)).cell? ⟨w.heap.size,1,none⟩=some (By b):=by simp [go_sem]
  have l1:w.heap.size<(w.alloc (.cells #[By a,By b,AI c] 180)).heap.size:=by simp
  have G0:ag (Gw w (w.alloc (.cells #[By a,By b,AI c] 180))):=(Gw.refl w).alloc _ _;go_enter func133,ntmps133;rcases tt with ⟨t1,rC,wz,Fk⟩ | rC
  all_goals
   go_wp2_with fail
   (try rw [hW]);(try rw [hR])
   generalize w.alloc (.cells #[By a,By b,AI c] 180)=wx at c1 l1 G0 ⊢;obtain ⟨N,hN⟩:∃ N,w.heap.size=N:=⟨_,rfl⟩;rw [hN] at c1 l1 ⊢;clear hN;have BF:ag (∀ w',Gw wx w'->w'.cell? ⟨N,1,none⟩=some (By b)/\N<w'.heap.size):=fun w' g=>⟨(g.cell _ _ l1).trans c1,Nat.lt_of_lt_of_le l1 g.size⟩
   go_cut [9,10] (fun s s' w'=>∃ q,s=BY q/\s'=By A/\ag (Bx w' q 233 (AI (aq o)) (By (av o)))/\ag (wx.heap.size<=q)/\ag (Gw wx w'))
   case first =>
    go_region_with (first
     | (go_at_call 154;refine (T1.o _).mono ?_;rintro ex w4 ⟨rfl,oC⟩;have jS:=oC.gw;have jF:ag (Gw wx w4):=(Gw.trans (by repeat (first | exact Gw.refl _ | exact ag.o (by assumption) | refine Gw.drew ?_ | refine Gw.alloc ?_ _ _)) jS);obtain ⟨Vl,Vm⟩:=BF.o w4 jF.o;(first | (have jG:ag (Bx w4 _ 233 (AI 0) (By 0)):=(Bx.gw (by first | exact Bx.new _ _ _ _ | exact Bx.drw5 (Bx.new _ _ _ _) | exact ag.o (by assumption) | exact Bx.drw5 (ag.o (by assumption))) jS);have Vn:=jG.o.c0;have Vo:=jG.o.c1;have Vp:=jG.o.fz 0;have Vq:=jG.o.fz 1) | skip);clear jS oC)
     | (go_at_call 153;refine (D1.o _).mono ?_;rintro ex w5 ⟨rfl,yD⟩;have gw5:=yD.gw;have lX:ag (Gw wx w5):=(Gw.trans (by repeat (first | exact Gw.refl _ | exact ag.o (by assumption) | refine Gw.drew ?_ | refine Gw.alloc ?_ _ _)) gw5);obtain ⟨yw5,lw5⟩:=BF.o w5 lX.o;(first | (have kt:ag (Bx w5 _ 233 (AI 0) (By 0)):=(Bx.gw (by first | exact Bx.new _ _ _ _ | exact Bx.drw5 (Bx.new _ _ _ _) | exact ag.o (by assumption) | exact Bx.drw5 (ag.o (by assumption))) gw5);have ae2:=kt.o.c0;have ae3:=kt.o.c1;have ae4:=kt.o.fz 0;have ae5:=kt.o.fz 1) | skip);clear gw5 yD))
    all_goals go_wp2_with fail
    all_goals go_meet
    all_goals
     case rel =>
      first
       | exact ⟨w5.heap.size,rfl,rfl,(show ag _ from Bx.new _ _ _ _),(show ag _ from lX.o.size),(show ag _ from lX.o.alloc _ _)⟩
       | exact ⟨w4.heap.size,rfl,rfl,(show ag _ from kt.o.set _ _),(show ag _ from jF.o.size),(show ag _ from (lX.o.setCell jF.o.size _).setCell jF.o.size _)⟩
       | exact ⟨wx.heap.size,rfl,rfl,(show ag _ from kt.o.set _ _),(show ag _ from Nat.le_refl _),(show ag _ from (lX.o.setCell (Nat.le_refl _) _).setCell (Nat.le_refl _) _)⟩
   case rest =>
    obtain ⟨wy,yA⟩:∃ wy,wy=wc:=⟨_,rfl⟩;subst yA;obtain ⟨q,rfl,rfl,XO,lq,gy⟩:=hcut;have GY:ag _:=G0.o.trans gy.o;obtain ⟨J3,Cv⟩:=BF.o wy gy.o;clear BF c1 l1 G0 gy lq D1;have BF:ag (∀ w',Gw wy w'->w'.cell? ⟨N,1,none⟩=some (By b)/\N<w'.heap.size):=fun w' g=>⟨(g.cell _ _ Cv).trans J3,Nat.lt_of_lt_of_le Cv g.size⟩
    go_wp2_with fail;go_cut [12,13] (fun s s' w'=>∃ q',s=.pointer (some ⟨q',0,none⟩)/\s'=By B/\ag (Bx w' q' 233 (AI (aq t)) (By (av t)))/\ag (wy.heap.size<=q')/\ag (Gw wy w'))
    case first =>
     have HKV:ag (∀ w',Gb wy w'->Gb wy w'/\w'.cell? ⟨N,1,none⟩=some (By b)):=fun w' g=>⟨g,(g.cell _ _ Cv).trans J3⟩
     go_region_held3 (fun w'=>Gb wy w'/\w'.cell? ⟨N,1,none⟩=some (By b))
      ((refine HKV.o _ ?_;(repeat (first | exact Gb.refl _ | exact And.left (by assumption) | exact ag.o (by assumption) | refine Gb.drew ?_ | refine Gb.alloc ?_ _ _ | refine Gb.setCell ?_ (by first | (simp;done) | omega | exact ag.o (by assumption)) _ | refine Gb.trans ?_ (by assumption)));done))
      (first
      | (go_at_call_of 154 (Value.int IntKind.i64 H);refine (T1.o _).mono ?_;rintro ex w4 ⟨rfl,oC⟩;have jS:=oC.gw;have Bw4:ag (Gb wy w4):=(Gb.trans (by repeat (first | exact Gb.refl _ | exact And.left (by assumption) | exact ag.o (by assumption) | refine Gb.drew ?_ | refine Gb.alloc ?_ _ _)) oC);have Lw4:ag (wy.heap.size<=w4.heap.size):=Bw4.o.size;have jF:ag (Gw wy w4):=(Gw.trans (by repeat (first | exact Gw.refl _ | exact ag.o (by assumption) | refine Gw.drew ?_ | refine Gw.alloc ?_ _ _)) jS);obtain ⟨Vl,Vm⟩:=BF.o w4 jF.o;(first | (have jG:ag (Bx w4 _ 233 (AI 0) (By 0)):=(Bx.gw (by first | exact Bx.new _ _ _ _ | exact Bx.drw5 (Bx.new _ _ _ _) | exact ag.o (by assumption) | exact Bx.drw5 (ag.o (by assumption))) jS);have Vn:=jG.o.c0;have Vo:=jG.o.c1;have Vp:=jG.o.fz 0;have Vq:=jG.o.fz 1) | skip);clear jS oC)
      | (go_at_call_of 154 (Value.int IntKind.i64 L);refine (T2.o _).mono ?_;rintro ex w6 ⟨rfl,J4⟩;have J5:=J4.gw;have Bw6:ag (Gb wy w6):=(Gb.trans (by repeat (first | exact Gb.refl _ | exact And.left (by assumption) | exact ag.o (by assumption) | refine Gb.drew ?_ | refine Gb.alloc ?_ _ _)) J4);have Lw6:ag (wy.heap.size<=w6.heap.size):=Bw6.o.size;have Cw:ag (Gw wy w6):=(Gw.trans (by repeat (first | exact Gw.refl _ | exact ag.o (by assumption) | refine Gw.drew ?_ | refine Gw.alloc ?_ _ _)) J5);obtain ⟨yw6,lw6⟩:=BF.o w6 Cw.o;(first | (have Cx:ag (Bx w6 _ 233 (AI 0) (By 0)):=(Bx.gw (by first | exact Bx.new _ _ _ _ | exact Bx.drw5 (Bx.new _ _ _ _) | exact ag.o (by assumption) | exact Bx.drw5 (ag.o (by assumption))) J5);have agi:=Cx.o.c0;have agj:=Cx.o.c1;have agk:=Cx.o.fz 0;have agl:=Cx.o.fz 1) | skip);clear J5 J4)
      | (go_at_call 155;refine (AD.o _).mono ?_;rintro ex w7 ⟨rfl,J6⟩;have J7:=J6.gw;have Bw7:ag (Gb wy w7):=(Gb.trans (by repeat (first | exact Gb.refl _ | exact And.left (by assumption) | exact ag.o (by assumption) | refine Gb.drew ?_ | refine Gb.alloc ?_ _ _)) J6);have Lw7:ag (wy.heap.size<=w7.heap.size):=Bw7.o.size;have Cy:ag (Gw wy w7):=(Gw.trans (by repeat (first | exact Gw.refl _ | exact ag.o (by assumption) | refine Gw.drew ?_ | refine Gw.alloc ?_ _ _)) J7);obtain ⟨yw7,lw7⟩:=BF.o w7 Cy.o;(first | (have Cz:ag (Bx w7 _ 233 (AI 0) (By 0)):=(Bx.gw (by first | exact Bx.new _ _ _ _ | exact Bx.drw5 (Bx.new _ _ _ _) | exact ag.o (by assumption) | exact Bx.drw5 (ag.o (by assumption))) J7);have agm:=Cz.o.c0;have agn:=Cz.o.c1;have ago:=Cz.o.fz 0;have agp:=Cz.o.fz 1) | skip);clear J7 J6)
      | (go_at_call 153;refine (D2.o _).mono ?_;rintro ex w8 ⟨rfl,J8⟩;have J9:=J8.gw;have Bw8:ag (Gb wy w8):=(Gb.trans (by repeat (first | exact Gb.refl _ | exact And.left (by assumption) | exact ag.o (by assumption) | refine Gb.drew ?_ | refine Gb.alloc ?_ _ _)) J8);have Lw8:ag (wy.heap.size<=w8.heap.size):=Bw8.o.size;have sV:ag (Gw wy w8):=(Gw.trans (by repeat (first | exact Gw.refl _ | exact ag.o (by assumption) | refine Gw.drew ?_ | refine Gw.alloc ?_ _ _)) J9);obtain ⟨yw8,lw8⟩:=BF.o w8 sV.o;(first | (have qt:ag (Bx w8 _ 233 (AI 0) (By 0)):=(Bx.gw (by first | exact Bx.new _ _ _ _ | exact Bx.drw5 (Bx.new _ _ _ _) | exact ag.o (by assumption) | exact Bx.drw5 (ag.o (by assumption))) J9);have agq:=qt.o.c0;have agr:=qt.o.c1;have ags:=qt.o.fz 0;have agt:=qt.o.fz 1) | skip);clear J9 J8))
     all_goals go_wp2_with fail
     all_goals go_meet
     all_goals
      case rel =>
       first
        | exact ⟨w8.heap.size,rfl,rfl,(show ag _ from Bx.new _ _ _ _),(show ag _ from sV.o.size),(show ag _ from sV.o.alloc _ _)⟩
        | exact ⟨w7.heap.size,rfl,rfl,(show ag _ from qt.o.set _ _),(show ag _ from Cy.o.size),(show ag _ from (sV.o.setCell Cy.o.size _).setCell Cy.o.size _)⟩
        | exact ⟨w6.heap.size,rfl,rfl,(show ag _ from qt.o.set _ _),(show ag _ from Cw.o.size),(show ag _ from (sV.o.setCell Cw.o.size _).setCell Cw.o.size _)⟩
        | exact ⟨w4.heap.size,rfl,rfl,(show ag _ from qt.o.set _ _),(show ag _ from jF.o.size),(show ag _ from (sV.o.setCell jF.o.size _).setCell jF.o.size _)⟩
        | exact ⟨wy.heap.size,rfl,rfl,(show ag _ from qt.o.set _ _),(show ag _ from Nat.le_refl _),(show ag _ from (sV.o.setCell (Nat.le_refl _) _).setCell (Nat.le_refl _) _)⟩
    case rest =>
     obtain ⟨wz,hwz⟩:∃ wz,wz=wc:=⟨_,rfl⟩;subst hwz;obtain ⟨q',rfl,rfl,XT,lq',gz⟩:=hcut;have Wt:ag (Bx wz q 233 (AI (aq o)) (By (av o))):=XO.o.gw gz.o;obtain ⟨c1z,l1z⟩:=BF.o wz gz.o;have GZ:ag _:=GY.o.trans gz.o;clear BF J3 Cv GY gz lq' XO T1 T2 D2 AD;obtain ⟨⟨o0,o1,o2⟩,⟨p1,p2⟩,r1,r2⟩:=PP.o;have eo:av o=o:=by unfold av;omega
     have et:av t=t:=by unfold av;omega
     have x1:=Wt.o.c1;have x2:=XT.o.c1;rw [eo] at x1;rw [et] at x2;have wot:IntKind.u64.wrap (o+t)=o+t:=by rw [IntKind.wrap_u64];omega
     have wbB:IntKind.u64.wrap (b-B)=b-B:=by rw [IntKind.wrap_u64];omega
     clear Wt XT;by_cases k:b-B<=A;have tk:decide (b-B<=A)=true:=by simpa using k
     have S:=lY.o;rw [if_pos k] at S;have lt1:o+t+1<18446744073709551616:=by
      have h1:=P1.o k;omega
     have wo1:IntKind.u64.wrap (o+t+1)=o+t+1:=by rw [IntKind.wrap_u64];omega
     obtain ⟨m,hm⟩:∃ m,o+t+1=m:=⟨_,rfl⟩;rw [hm] at wo1
     rotate_left
     have tk:decide (b-B<=A)=false:=by simpa using k
     have S:=lY.o;rw [if_neg k] at S;obtain ⟨m,hm⟩:∃ m,o+t=m:=⟨_,rfl⟩;rw [hm] at wot
     rotate_left
     all_goals
      have SQ:Q=M+m:=by omega
      have m0:0<=m/\m<18446744073709551616:=by omega
      clear S;have CA:ag (2305843009213693952<M+m->V=0/\z=false):=by rw [<-SQ];exact VB.o
      have Wu:ag (M+m<=2305843009213693952->V=M+m/\z=true):=by rw [<-SQ];exact VG.o
      clear SQ VB VG lY PP;by_cases k2:2305843009213693952<m
      ·have t2:decide (2305843009213693952<m)=true:=by simpa using k2
       go_wp2_with fail;exact bodyPost_ret (v:=.tuple #[AI 0,.bool false]) (by simp [results,results133,go_sem]) rfl ⟨by rw [(CA.o (by omega)).1,(CA.o (by omega)).2],GZ.o⟩
      ·have t2:decide (2305843009213693952<m)=false:=by simpa using k2
       have wf:IntKind.u64.wrap (2305843009213693952-m)=2305843009213693952-m:=by rw [IntKind.wrap_u64];omega
       by_cases k3:2305843009213693952-m<M
       ·have t4:decide (2305843009213693952-m<M)=true:=by simpa using k3
        go_wp2_with fail;exact bodyPost_ret (v:=.tuple #[AI 0,.bool false]) (by simp [results,results133,go_sem]) rfl ⟨by rw [(CA.o (by omega)).1,(CA.o (by omega)).2],GZ.o⟩
       ·have t4:decide (2305843009213693952-m<M)=false:=by simpa using k3
        have wm:IntKind.u64.wrap (M+m)=M+m:=by rw [IntKind.wrap_u64];omega
        have wi:IntKind.i64.wrap (M+m)=M+m:=by rw [IntKind.wrap_i64];omega
        go_wp2_with fail;exact bodyPost_ret (v:=.tuple #[AI (M+m),.bool true]) (by simp [results,results133,go_sem]) rfl ⟨by rw [(Wu.o (by omega)).1,(Wu.o (by omega)).2],GZ.o⟩
end Go.Proofs.YtcboobmfnmgldaaGreat
namespace Go.Proofs.YtcboobmfnmgldaaGreat
theorem o5c:oU:=fun eps ao n cp f p0 p1 hn w h=>aeW af3 eps ao n cp f p0 p1 hn w h
end Go.Proofs.YtcboobmfnmgldaaGreat
