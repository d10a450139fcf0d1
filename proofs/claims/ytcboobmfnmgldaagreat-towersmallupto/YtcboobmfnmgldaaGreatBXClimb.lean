/- Package line's 'climb': a slope times a distance, rounded down, or that it is too high. -/
import Derived.Deep.CondSized
import Derived.Deep.DeepCutAuto
import Derived.Deep.RegionWith
import Derived.Test.YtcboobmfnmgldaaGreatBPCt
import Derived.Test.YtcboobmfnmgldaaGreatBWDiv
set_option linter.unusedVariables false
set_option maxHeartbeats 16000000
set_option maxRecDepth 100000
open Go.Proofs.Tryz
namespace Go.Proofs.YtcboobmfnmgldaaGreat
open Go.RowKit
attribute [local go_sem] frozen?_alloc_cells dF
theorem Bx.drw {w:World} {b:Nat} {t:TypeId} {u v:Value} (h:Bx w b t u v):Bx w.drew b t u v:=h
theorem aeZ {a b d:Int} (a0:9223372036854775807<a) (d0:9223372036854775807<d) (b0:0<=b) (b1:b<18446744073709551616):iN a b d:=by
 by_cases h:b=0
 ·exact .inl h
 ·right
  have h1:(9223372036854775808:Int)*9223372036854775808<=a*d:=Int.mul_le_mul (by omega) (by omega) (by omega) (by omega)
  have h2:(4611686018427387904:Int)<=a*d/b:=by
   rw [Int.le_ediv_iff_mul_le (by omega)]
   have:(4611686018427387904:Int)*b<=4611686018427387904*18446744073709551616:=Int.mul_le_mul_of_nonneg_left (by omega) (by omega)
   omega
  omega
theorem ae0 (a d:Int):min a d*max a d=a*d:=by
 by_cases h:a<=d
 ·rw [Int.min_eq_left h,Int.max_eq_right h]
 ·rw [Int.min_eq_right (by omega),Int.max_eq_left (by omega),Int.mul_comm]
theorem ae1:CX:=by
 intro a b c d a0 a1 b0 b1 d0 d1 w;have G0:ag (Gw w (w.alloc (.cells #[By a,By b,AI c] 180))):=(Gw.refl w).alloc _ _;have MM:=ae0 a d;have m1:min a d<=a/\min a d<=d/\(min a d=a\/min a d=d):=by omega
 have m2:(max a d=a\/max a d=d):=by omega
 obtain ⟨L,hL⟩:∃ L,min a d=L:=⟨_,rfl⟩;obtain ⟨H,hH⟩:∃ H,max a d=H:=⟨_,rfl⟩;rw [hL,hH] at MM;rw [hL] at m1;rw [hH] at m2;have L0:0<=L:=by omega
 have H0:0<=H/\H<18446744073709551616:=by omega
 by_cases h1:9223372036854775807<L
 ·have bad:=aeZ (a:=a) (d:=d) (by omega) (by omega) b0 b1
  have t1:decide (9223372036854775807<L)=true:=by simpa using h1
  rw [if_pos bad,decide_eq_true bad];clear bad MM m1 m2;go_enter func166,ntmps166;go_wp2_with fail;go_quiet (fail);go_wp2_with fail;exact bodyPost_ret (v:=.tuple #[AI 0,.bool false]) (by simp [results,results166,go_sem]) rfl ⟨rfl,G0.o.drewN _⟩
 ·have t1:decide (9223372036854775807<L)=false:=by simpa using h1
  have wl:IntKind.i64.wrap L=L:=by rw [IntKind.wrap_i64];omega
  obtain ⟨X,hX⟩:∃ X,a*d=X:=⟨_,rfl⟩;rw [hX] at MM;have X0:0<=X:=by rw [<-MM];exact Int.mul_nonneg L0 H0.1
  have X1:X<170141183460469231731687303715884105728:=by
   have k1:L*H<=9223372036854775807*H:=Int.mul_le_mul_of_nonneg_right (by omega) H0.1
   omega
  have T1:ag (∀ w:World,Calls prog 191 #[AI L,By H] w fun e w'=>e=.returned (.agg #[AI (aq (X)),By (av (X))])/\Gk 1 w w'):=fun w=>by
   have:=Iz L H (by omega) (by omega) H0.1 H0.2 w
   rw [MM] at this;exact this
  obtain ⟨Q,E,hD⟩:∃ Q E:Int,(0<=Q/\Q<=X/\(E=0\/E=10))/\(iN a b d↔E=10\/2305843009213693952<Q)/\(¬ E=10->a*d/b=Q)/\∃ r,∀ w:World,Calls prog 190 #[.agg #[AI (aq (X)),By (av (X))],By b] w fun e w'=>e=.returned (.tuple #[.agg #[AI (aq (Q)),By (av (Q))],By r,AI E])/\∃ k,Gk k w w':=by
   by_cases hb:b=0
   ·refine ⟨0,10,⟨by omega,by omega,.inr rfl⟩,⟨fun _=>.inl rfl,fun _=>.inl hb⟩,fun q=>absurd rfl q,0,fun w=>?_⟩
    subst hb;have:=div_zero X w;rw [show aq 0=0 by decide +kernel,show av 0=0 by decide +kernel]
    exact this.mono fun e w' h=>⟨h.1,_,h.2⟩
   ·have hp:0<=aq X:=by have:=oL X (by omega) X1;unfold aq;omega
    refine ⟨X/b,0,⟨Int.ediv_nonneg X0 b0,Int.ediv_le_self _ X0,.inl rfl⟩,?_,fun _=>by rw [hX],X%b,fun w=>?_⟩
    ·unfold iN
     rw [hX];constructor
     ·rintro (q | q)
      ·exact absurd q hb
      ·exact .inr q
     ·rintro (q | q)
      ·exact absurd q (by omega)
      ·exact .inr q
    ·have:=div_pos X b hp (by omega) b1 w
     rw [oL X (by omega) X1] at this
     exact this.mono fun e w' h=>⟨h.1,_,h.2⟩
  obtain ⟨⟨Q0,Q1,EE⟩,BD,QE,r,DV⟩:=hD;have D1:ag _:=DV;have OF:ag (∀ w:World,Calls prog 193 #[AI 2305843009213693952] w fun e w'=>e=.returned (.agg #[AI (aq (2305843009213693952)),By (av (2305843009213693952))])/\Gk 1 w w'):=fun w=>aeC 2305843009213693952 (by decide) (by decide) w
  have CM:ag (∀ w:World,Calls prog 192 #[.agg #[AI (aq (Q)),By (av (Q))],.agg #[AI (aq (2305843009213693952)),By (av (2305843009213693952))]] w fun e w'=>e=.returned (AI (bM Q 2305843009213693952))/\Gk 2 w w'):=fun w=>by
   have:=Uc Q 2305843009213693952 w
   rw [oL Q (by omega) (by omega),oL 2305843009213693952 (by decide) (by decide)] at this
   exact this
  have aL:ag (∀ w',Gw w w'->(∀ v z,(iN a b d->v=0/\z=false)->(¬ iN a b d->v=Q/\z=true)->(Ending.returned (.tuple #[AI v,.bool z])=Ending.returned (.tuple #[AI (if iN a b d then 0 else a*d/b),.bool (!decide (iN a b d))])/\Gw w w'))):=by
   intro w' g v z k1 k2;refine ⟨?_,g⟩;by_cases q:iN a b d
   ·rw [if_pos q,decide_eq_true q,(k1 q).1,(k1 q).2];rfl
   ·have q':¬ E=10:=fun s=>q (BD.2 (.inl s))
    rw [if_neg q,decide_eq_false q,(k2 q).1,(k2 q).2,QE q'];rfl
  have yC:ag _:=BD;clear BD QE DV MM hX m1 m2;generalize (if iN a b d then 0 else a*d/b)=V at aL ⊢
  generalize (!decide (iN a b d))=ZZ at aL ⊢;go_enter func166,ntmps166;go_wp2_with fail;go_quiet (fail);go_wp2_with fail;have c1:((w.alloc (.cells #[By a,By b,AI c] 180)).drewN nq).cell? ⟨w.heap.size,1,none⟩=some (By b):=by simp [go_sem]
  have l1:w.heap.size<((w.alloc (.cells #[By a,By b,AI c] 180)).drewN nq).heap.size:=by simp
  replace G0:ag (Gw w ((w.alloc (.cells #[By a,By b,AI c] 180)).drewN nq)):=G0.o.drewN _
  generalize (w.alloc (.cells #[By a,By b,AI c] 180)).drewN nq=wx at c1 l1 G0 ⊢;obtain ⟨N,hN⟩:∃ N,w.heap.size=N:=⟨_,rfl⟩;rw [hN] at c1 l1 ⊢;clear hN;have BF:ag (∀ w',Gw wx w'->w'.cell? ⟨N,1,none⟩=some (By b)/\N<w'.heap.size):=fun w' g=>⟨(g.cell _ _ l1).trans c1,Nat.lt_of_lt_of_le l1 g.size⟩
  go_cut [8,10] (fun s s' w'=>∃ q,s=BY q/\s'=AI E/\ag (Bx w' q 233 (AI (aq Q)) (By (av Q)))/\ag (wx.heap.size<=q)/\ag (Gw wx w'))
  case first =>
    go_region_with (first
     | (go_at_call 191;refine (T1.o _).mono ?_;rintro ex w4 ⟨rfl,oC⟩;have jS:=oC.gb.gw;have jF:ag (Gw wx w4):=(Gw.trans (by repeat (first | exact Gw.refl _ | exact ag.o (by assumption) | refine Gw.drew ?_ | refine Gw.alloc ?_ _ _)) jS);obtain ⟨Vl,Vm⟩:=BF.o w4 jF.o;(first | (have jG:ag (Bx w4 _ 233 (AI 0) (By 0)):=(Bx.gw (by first | exact Bx.new _ _ _ _ | exact Bx.drw (Bx.new _ _ _ _) | exact ag.o (by assumption) | exact Bx.drw (ag.o (by assumption))) jS);have Vn:=jG.o.c0;have Vo:=jG.o.c1;have Vp:=jG.o.fz 0;have Vq:=jG.o.fz 1) | skip);clear jS oC)
     | (go_at_call 190;refine (D1.o _).mono ?_;rintro ex w5 ⟨rfl,kw5,yD⟩;have gw5:=yD.gb.gw;have lX:ag (Gw wx w5):=(Gw.trans (by repeat (first | exact Gw.refl _ | exact ag.o (by assumption) | refine Gw.drew ?_ | refine Gw.alloc ?_ _ _)) gw5);obtain ⟨yw5,lw5⟩:=BF.o w5 lX.o;(first | (have kt:ag (Bx w5 _ 233 (AI 0) (By 0)):=(Bx.gw (by first | exact Bx.new _ _ _ _ | exact Bx.drw (Bx.new _ _ _ _) | exact ag.o (by assumption) | exact Bx.drw (ag.o (by assumption))) gw5);have ae2:=kt.o.c0;have ae3:=kt.o.c1;have ae4:=kt.o.fz 0;have ae5:=kt.o.fz 1) | skip);clear gw5 yD))
    all_goals go_wp2_with fail
    all_goals go_meet
    all_goals
     case rel =>
      first
       | exact ⟨w5.heap.size,rfl,rfl,(show ag _ from Bx.new _ _ _ _),(show ag _ from lX.o.size),(show ag _ from lX.o.alloc _ _)⟩
       | exact ⟨w4.heap.size,rfl,rfl,(show ag _ from kt.o.set _ _),(show ag _ from jF.o.size),(show ag _ from (lX.o.setCell jF.o.size _).setCell jF.o.size _)⟩
       | exact ⟨wx.heap.size,rfl,rfl,(show ag _ from kt.o.set _ _),(show ag _ from Nat.le_refl _),(show ag _ from (lX.o.setCell (Nat.le_refl _) _).setCell (Nat.le_refl _) _)⟩
  case rest =>
   obtain ⟨wy,yA⟩:∃ wy,wy=wc:=⟨_,rfl⟩;subst yA;obtain ⟨q,rfl,rfl,XO,lq,gy⟩:=hcut;have GY:ag _:=G0.o.trans gy.o;have x0:=XO.o.c0;have x1:=XO.o.c1;have lt:=XO.o.lt;clear BF c1 l1 G0 gy lq D1 T1;by_cases hE:E=10
   ·subst hE
    have R:=fun w' g=>aL.o w' g 0 false (fun _=>⟨rfl,rfl⟩) (fun q=>absurd (yC.o.2 (.inl rfl)) q)
    have RR:ag _:=R;clear R aL yC;go_wp2_with fail;go_quiet (fail)
    all_goals go_wp2_with fail
    all_goals exact bodyPost_ret (v:=.tuple #[AI 0,.bool false]) (by simp [results,results166,go_sem]) rfl (RR.o _ (by first | exact GY.o.drewN _ | exact GY.o.drew))
   ·have eE:E=0:=by omega
    subst eE;have BX:ag (∀ w',Gw wy w'->(w'.cell? ⟨q,0,none⟩=some (AI (aq Q))/\w'.cell? ⟨q,1,none⟩=some (By (av Q))/\q<w'.heap.size)):=fun w' g=>⟨(XO.o.gw g).c0,(XO.o.gw g).c1,(XO.o.gw g).lt⟩
    have Ci:ag (iN a b d↔2305843009213693952<Q):=⟨fun s=>(yC.o.1 s).elim (fun t=>absurd t (by decide)) id,fun s=>yC.o.2 (.inr s)⟩
    clear yC hE EE;by_cases hQ:2305843009213693952<Q
    ·have cm:bM Q 2305843009213693952=1:=by unfold bM;rw [if_neg (by omega),if_neg (by omega)]
     have RR:ag (∀ w',Gw w w'->_):=fun w' g=>aL.o w' g 0 false (fun _=>⟨rfl,rfl⟩) (fun q=>absurd (Ci.o.2 hQ) q)
     rw [cm] at CM;clear aL Ci cm;go_wp2_with fail;go_region_with (first
      | (go_at_call 193;refine (OF.o _).mono ?_;rintro ex v1 ⟨rfl,yE⟩;have yF:=yE.gb.gw;have JB:ag (Gw wy v1):=(Gw.trans (by repeat (first | exact Gw.refl _ | exact ag.o (by assumption) | refine Gw.drew ?_)) yF);obtain ⟨y1,y2,y3⟩:=BX.o v1 JB.o;clear yF yE)
      | (go_at_call 192;refine (CM.o _).mono ?_;rintro ex v2 ⟨rfl,yG⟩;have yH:=yG.gb.gw;have yI:ag (Gw wy v2):=(Gw.trans (by repeat (first | exact Gw.refl _ | exact ag.o (by assumption) | refine Gw.drew ?_)) yH);obtain ⟨y4,y5,y6⟩:=BX.o v2 yI.o;clear yH yG))
     all_goals go_wp2_with fail
     all_goals exact bodyPost_ret (v:=.tuple #[AI 0,.bool false]) (by simp [results,results166,go_sem]) rfl (RR.o _ (GY.o.trans yI.o))
    ·have cm:bM Q 2305843009213693952<=0:=by unfold bM;split<;>(try split)<;>omega
     have RR:ag (∀ w',Gw w w'->_):=fun w' g=>aL.o w' g Q true (fun q=>absurd (Ci.o.1 q) hQ) (fun _=>⟨rfl,rfl⟩)
     obtain ⟨k,hk⟩:∃ k,bM Q 2305843009213693952=k:=⟨_,rfl⟩;rw [hk] at CM cm;have t3:decide (0<k)=false:=by simpa using cm
     have lq:ag (av Q=Q):=by show _=_;unfold av;omega
     have wq:IntKind.i64.wrap Q=Q:=by rw [IntKind.wrap_i64];omega
     clear aL Ci hk;go_wp2_with fail;go_region_with (first
      | (go_at_call 193;refine (OF.o _).mono ?_;rintro ex v1 ⟨rfl,yE⟩;have yF:=yE.gb.gw;have JB:ag (Gw wy v1):=(Gw.trans (by repeat (first | exact Gw.refl _ | exact ag.o (by assumption) | refine Gw.drew ?_)) yF);obtain ⟨y1,y2,y3⟩:=BX.o v1 JB.o;clear yF yE)
      | (go_at_call 192;refine (CM.o _).mono ?_;rintro ex v2 ⟨rfl,yG⟩;have yH:=yG.gb.gw;have yI:ag (Gw wy v2):=(Gw.trans (by repeat (first | exact Gw.refl _ | exact ag.o (by assumption) | refine Gw.drew ?_)) yH);obtain ⟨y4,y5,y6⟩:=BX.o v2 yI.o;clear yH yG))
     all_goals (rw [lq.o] at y5;go_wp2_with fail)
     all_goals exact bodyPost_ret (v:=.tuple #[AI Q,.bool true]) (by simp [results,results166,go_sem]) rfl (RR.o _ (GY.o.trans yI.o))
end Go.Proofs.YtcboobmfnmgldaaGreat
