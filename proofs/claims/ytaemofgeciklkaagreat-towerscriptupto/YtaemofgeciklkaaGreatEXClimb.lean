import Derived.Deep.DeepCutAuto
import Derived.Test.YtaemofgeciklkaaGreatEPCt
import Derived.Test.YtaemofgeciklkaaGreatEWDiv
set_option linter.unusedVariables false
set_option maxHeartbeats 16000000
set_option maxRecDepth 100000
open Go.Proofs.Tryz
namespace Go.Proofs.YtaemofgeciklkaaGreat
open Go.RowKit
attribute [local go_sem] frozen?_alloc_cells fL
theorem Bx.drw {w:World} {b:Nat} {t:TypeId} {u v:Value} (h:Bx w b t u v):Bx w.drew b t u v:=h
theorem ag9 {a b d:Int} (a0:9223372036854775807<a) (d0:9223372036854775807<d) (b0:0<=b) (b1:b<18446744073709551616):jB a b d:=by
 by_cases h:b=0
 ·exact .inl h
 ·right
  have h1:(9223372036854775808:Int)*9223372036854775808<=a*d:=Int.mul_le_mul ω ω ω ω;have h2:(4611686018427387904:Int)<=a*d/b:=by rw [Int.le_ediv_iff_mul_le ω];have:(4611686018427387904:Int)*b<=4611686018427387904*18446744073709551616:=Int.mul_le_mul_of_nonneg_left ω ω;omega
  omega
theorem ag' (a d:Int):min a d*max a d=a*d:=by
 by_cases h:a<=d
 ·rw [Int.min_eq_left h,Int.max_eq_right h]
 ·rw [Int.min_eq_right ω,Int.max_eq_left ω,qaa]
theorem aha:Fm:=by
 intro a b c d a0 a1 b0 b1 d0 d1 w;have G0:ag (Gw w (w.alloc (.cells #[BY a,BY b,By c] 212))):=(Gw.refl w).alloc _ _;have MM:=ag' a d;have m1:min a d<=a/\min a d<=d/\(min a d=a\/min a d=d):=ω;have m2:(max a d=a\/max a d=d):=ω;obtain ⟨L,hL⟩:=qbr (min a d);obtain ⟨H,hH⟩:=qbr (max a d);rw [hL,hH] at MM;rw [hL] at m1;rw [hH] at m2;have L0:0<=L:=ω;have H0:0<=H/\H<18446744073709551616:=ω;by_cases h1:9223372036854775807<L
 ·have bad:=ag9 (a:=a) (d:=d) ω ω b0 b1
  have t1:decide (9223372036854775807<L)=true:=by simpa using h1
  rw [Ym bad,qaF bad];clear bad MM m1 m2;go_enter func217,ntmps217;go_wp2_with fail;go_quiet (fail);go_wp2_with fail;exact bodyPost_ret (v:=.tuple #[By 0,.bool false]) (by simp [results,results217,go_sem]) rfl ⟨rfl,G0.o.drewN _⟩
 ·have t1:decide (9223372036854775807<L)=false:=by simpa using h1
  have wl:IntKind.i64.wrap L=L:=by rw [Δ];omega
  obtain ⟨X,hX⟩:=qbr (a*d);rw [hX] at MM;have X0:0<=X:=by rw [<-MM];exact qas L0 H0.1
  have X1:X<170141183460469231731687303715884105728:=by have k1:L*H<=9223372036854775807*H:=qae ω H0.1;omega
  have T1:ag (∀ w:World,Calls prog 232 #[By L,BY H] w fun e w'=>e=χ (.agg #[By (ay (X)),BY (az (X))])/\Gk 1 w w'):=fun w=>by
   have:=Ky L H ω ω H0.1 H0.2 w
   rw [MM] at this;exact this
  obtain ⟨Q,E,hD⟩:∃ Q E:Int,(0<=Q/\Q<=X/\(E=0\/E=10))/\(jB a b d↔E=10\/2305843009213693952<Q)/\(¬ E=10->a*d/b=Q)/\∃ r,∀ w:World,Calls prog 231 #[.agg #[By (ay (X)),BY (az (X))],BY b] w fun e w'=>e=χ (.tuple #[.agg #[By (ay (Q)),BY (az (Q))],BY r,By E])/\∃ k,Gk k w w':=by
   by_cases hb:b=0
   ·refine ⟨0,10,⟨ω,ω,.inr rfl⟩,⟨fun _=>.inl rfl,fun _=>.inl hb⟩,fun q=>absurd rfl q,0,fun w=>?_⟩
    subst hb;have:=div_zero X w;rw [show ay 0=0 by decide +kernel,show az 0=0 by decide +kernel]
    exact this.mono fun e w' h=>⟨h.1,_,h.2⟩
   ·have hp:0<=ay X:=(by have:=oi X ω X1;unfold ay;omega);refine ⟨X/b,0,⟨qaY X0 b0,Int.ediv_le_self _ X0,.inl rfl⟩,?_,fun _=>by rw [hX],X%b,fun w=>?_⟩
    ·unfold jB
     rw [hX];constructor
     ·rintro (q | q)
      ·exact absurd q hb
      ·exact .inr q
     ·rintro (q | q)
      ·exact absurd q ω
      ·exact .inr q
    ·have:=div_pos X b hp ω b1 w
     rw [oi X ω X1] at this;exact this.mono fun e w' h=>⟨h.1,_,h.2⟩
  obtain ⟨⟨Q0,Q1,EE⟩,BD,QE,r,DV⟩:=hD;have D1:ag _:=DV;have OF:ag (∀ w:World,Calls prog 234 #[By 2305843009213693952] w fun e w'=>e=χ (.agg #[By (ay (2305843009213693952)),BY (az (2305843009213693952))])/\Gk 1 w w'):=fun w=>agP 2305843009213693952 γ γ w
  have CM:ag (∀ w:World,Calls prog 233 #[.agg #[By (ay (Q)),BY (az (Q))],.agg #[By (ay (2305843009213693952)),BY (az (2305843009213693952))]] w fun e w'=>e=χ (By (bN Q 2305843009213693952))/\Gk 2 w w'):=fun w=>by
   have:=Wv Q 2305843009213693952 w
   rw [oi Q ω ω,oi 2305843009213693952 γ γ] at this;exact this
  have aD:ag (∀ w',Gw w w'->(∀ v z,(jB a b d->v=0/\z=false)->(¬ jB a b d->v=Q/\z=true)->(Ending.returned (.tuple #[By v,.bool z])=Ending.returned (.tuple #[By (if jB a b d then 0 else a*d/b),.bool (!decide (jB a b d))])/\Gw w w'))):=by
   intro w' g v z k1 k2;refine ⟨?_,g⟩;by_cases q:jB a b d
   ·rw [Ym q,qaF q,(k1 q).1,(k1 q).2];rfl
   ·have q':¬ E=10:=fun s=>q (BD.2 (.inl s))
    rw [Yl q,qan q,(k2 q).1,(k2 q).2,QE q'];rfl
  have Af:ag _:=BD;clear BD QE DV MM hX m1 m2;generalize (if jB a b d then 0 else a*d/b)=V at aD ⊢
  generalize (!decide (jB a b d))=ZZ at aD ⊢;go_enter func217,ntmps217;go_wp2_with fail;go_quiet (fail);go_wp2_with fail;have c1:((w.alloc (.cells #[BY a,BY b,By c] 212)).drewN nq).cell? (φ w.heap.size 1)=some (BY b):=by simp [go_sem]
  have l1:w.heap.size<((w.alloc (.cells #[BY a,BY b,By c] 212)).drewN nq).heap.size:=ε;replace G0:ag (Gw w ((w.alloc (.cells #[BY a,BY b,By c] 212)).drewN nq)):=G0.o.drewN _;generalize (w.alloc (.cells #[BY a,BY b,By c] 212)).drewN nq=wx at c1 l1 G0 ⊢;obtain ⟨N,hN⟩:=qbr w.heap.size;rw [hN] at c1 l1 ⊢;clear hN;have BF:ag (∀ w',Gw wx w'->w'.cell? (φ N 1)=some (BY b)/\N<w'.heap.size):=fun w' g=>⟨(g.cell _ _ l1).trans c1,Θ l1 g.size⟩
  go_cut [8,10] (fun s s' w'=>∃ q,s=IS q/\s'=By E/\ag (Bx w' q 247 (By (ay Q)) (BY (az Q)))/\ag (wx.heap.size<=q)/\ag (Gw wx w'))
  case first =>
    go_region_with (first
     | (go_at_call 232;refine (T1.o _).mono ?_;rintro ex w4 ⟨rfl,qB⟩;have lC:=qB.gb.gw;have kQ:ag (Gw wx w4):=(Gw.trans (by repeat (first | exact Gw.refl _ | exact ag.o δ | refine Gw.drew ?_ | refine Gw.alloc ?_ _ _)) lC);obtain ⟨XG,XI⟩:=BF.o w4 kQ.o;(first | (have kR:ag (Bx w4 _ 247 (By 0) (BY 0)):=(Bx.gw (by first | exact Bx.new _ _ _ _ | exact Bx.drw (Bx.new _ _ _ _) | exact ag.o δ | exact Bx.drw (ag.o δ)) lC);have XJ:=kR.o.c0;have XM:=kR.o.c1;have XP:=kR.o.fz 0;have XQ:=kR.o.fz 1) | skip);clear lC qB)
     | (go_at_call 231;refine (D1.o _).mono ?_;rintro ex w5 ⟨rfl,kw5,Ag⟩;have gw5:=Ag.gb.gw;have n9:ag (Gw wx w5):=(Gw.trans (by repeat (first | exact Gw.refl _ | exact ag.o δ | refine Gw.drew ?_ | refine Gw.alloc ?_ _ _)) gw5);obtain ⟨yw5,lw5⟩:=BF.o w5 n9.o;(first | (have lP:ag (Bx w5 _ 247 (By 0) (BY 0)):=(Bx.gw (by first | exact Bx.new _ _ _ _ | exact Bx.drw (Bx.new _ _ _ _) | exact ag.o δ | exact Bx.drw (ag.o δ)) gw5);have ahb:=lP.o.c0;have ahc:=lP.o.c1;have ahd:=lP.o.fz 0;have ahe:=lP.o.fz 1) | skip);clear gw5 Ag))
    all_goals go_wp2_with fail
    all_goals go_meet
    all_goals
     case rel =>
      first
       | exact ⟨w5.heap.size,rfl,rfl,(show ag _ from Bx.new _ _ _ _),(show ag _ from n9.o.size),(show ag _ from n9.o.alloc _ _)⟩
       | exact ⟨w4.heap.size,rfl,rfl,(show ag _ from lP.o.set _ _),(show ag _ from kQ.o.size),(show ag _ from (n9.o.setCell kQ.o.size _).setCell kQ.o.size _)⟩
       | exact ⟨wx.heap.size,rfl,rfl,(show ag _ from lP.o.set _ _),(show ag _ from Yk _),(show ag _ from (n9.o.setCell (Yk _) _).setCell (Yk _) _)⟩
  case rest =>
   obtain ⟨wy,ym⟩:=qbs wc;subst ym;obtain ⟨q,rfl,rfl,XO,lq,gy⟩:=hcut;have GY:ag _:=G0.o.trans gy.o;have x0:=XO.o.c0;have x1:=XO.o.c1;have lt:=XO.o.lt;clear BF c1 l1 G0 gy lq D1 T1;by_cases hE:E=10
   ·subst hE
    have R:=fun w' g=>aD.o w' g 0 false (fun _=>⟨rfl,rfl⟩) (fun q=>absurd (Af.o.2 (.inl rfl)) q)
    have RR:ag _:=R;clear R aD Af;go_wp2_with fail;go_quiet (fail)
    all_goals go_wp2_with fail
    all_goals exact bodyPost_ret (v:=.tuple #[By 0,.bool false]) (by simp [results,results217,go_sem]) rfl (RR.o _ (by first | exact GY.o.drewN _ | exact GY.o.drew))
   ·have eE:E=0:=(by omega);subst eE;have BX:ag (∀ w',Gw wy w'->(w'.cell? (φ q 0)=some (By (ay Q))/\w'.cell? (φ q 1)=some (BY (az Q))/\q<w'.heap.size)):=fun w' g=>⟨(XO.o.gw g).c0,(XO.o.gw g).c1,(XO.o.gw g).lt⟩
    have Es:ag (jB a b d↔2305843009213693952<Q):=⟨fun s=>(Af.o.1 s).elim (fun t=>absurd t γ) id,fun s=>Af.o.2 (.inr s)⟩
    clear Af hE EE;by_cases hQ:2305843009213693952<Q
    ·have cm:bN Q 2305843009213693952=1:=(by unfold bN;rw [Yl ω,Yl ω]);have RR:ag (∀ w',Gw w w'->_):=fun w' g=>aD.o w' g 0 false (fun _=>⟨rfl,rfl⟩) (fun q=>absurd (Es.o.2 hQ) q)
     rw [cm] at CM;clear aD Es cm;go_wp2_with fail;go_region_with (first
      | (go_at_call 234;refine (OF.o _).mono ?_;rintro ex v1 ⟨rfl,Ah⟩;have Ai:=Ah.gb.gw;have LZ:ag (Gw wy v1):=(Gw.trans (by repeat (first | exact Gw.refl _ | exact ag.o δ | refine Gw.drew ?_)) Ai);obtain ⟨y1,y2,y3⟩:=BX.o v1 LZ.o;clear Ai Ah)
      | (go_at_call 233;refine (CM.o _).mono ?_;rintro ex v2 ⟨rfl,Aj⟩;have Ak:=Aj.gb.gw;have Am:ag (Gw wy v2):=(Gw.trans (by repeat (first | exact Gw.refl _ | exact ag.o δ | refine Gw.drew ?_)) Ak);obtain ⟨y4,y5,y6⟩:=BX.o v2 Am.o;clear Ak Aj))
     all_goals go_wp2_with fail
     all_goals exact bodyPost_ret (v:=.tuple #[By 0,.bool false]) (by simp [results,results217,go_sem]) rfl (RR.o _ (GY.o.trans Am.o))
    ·have cm:bN Q 2305843009213693952<=0:=(by unfold bN;split<;>(try split)<;>omega);have RR:ag (∀ w',Gw w w'->_):=fun w' g=>aD.o w' g Q true (fun q=>absurd (Es.o.1 q) hQ) (fun _=>⟨rfl,rfl⟩)
     obtain ⟨k,hk⟩:=qbr (bN Q 2305843009213693952);rw [hk] at CM cm;have t3:decide (0<k)=false:=(by simpa using cm);have lq:ag (az Q=Q):=(by show _=_;unfold az;omega);have wq:IntKind.i64.wrap Q=Q:=(by rw [Δ];omega);clear aD Es hk;go_wp2_with fail;go_region_with (first
      | (go_at_call 234;refine (OF.o _).mono ?_;rintro ex v1 ⟨rfl,Ah⟩;have Ai:=Ah.gb.gw;have LZ:ag (Gw wy v1):=(Gw.trans (by repeat (first | exact Gw.refl _ | exact ag.o δ | refine Gw.drew ?_)) Ai);obtain ⟨y1,y2,y3⟩:=BX.o v1 LZ.o;clear Ai Ah)
      | (go_at_call 233;refine (CM.o _).mono ?_;rintro ex v2 ⟨rfl,Aj⟩;have Ak:=Aj.gb.gw;have Am:ag (Gw wy v2):=(Gw.trans (by repeat (first | exact Gw.refl _ | exact ag.o δ | refine Gw.drew ?_)) Ak);obtain ⟨y4,y5,y6⟩:=BX.o v2 Am.o;clear Ak Aj))
     all_goals (rw [lq.o] at y5;go_wp2_with fail)
     all_goals exact bodyPost_ret (v:=.tuple #[By Q,.bool true]) (by simp [results,results217,go_sem]) rfl (RR.o _ (GY.o.trans Am.o))
