/- Package line's 'climb': a slope times a distance, rounded down, or that it is too high. -/
import Derived.Deep.CondSized
import Derived.Deep.DeepCutAuto
import Derived.Deep.RegionWith
import Derived.Test.YtemijdhemdhclaaGreatNPCt
import Derived.Test.YtemijdhemdhclaaGreatNWDiv
set_option linter.unusedVariables false
set_option maxHeartbeats 16000000
set_option maxRecDepth 100000
open Go.Proofs.Tryz
namespace Go.Proofs.YtemijdhemdhclaaGreat
open Go.RowKit
attribute [local go_sem] frozen?_alloc_cells frozen?_new
theorem Bx.drw {w:World} {b:Nat} {t:TypeId} {u v:Value} (h:Bx w b t u v):Bx w.drew b t u v:=h
theorem climb_far {a b d:Int} (a0:9223372036854775807<a) (d0:9223372036854775807<d) (b0:0<=b) (b1:b<18446744073709551616):ClimbBad a b d:=by
 by_cases h:b=0
 ·exact .inl h
 ·right
  have h1:(9223372036854775808:Int)*9223372036854775808<=a*d:=Int.mul_le_mul (by omega) (by omega) (by omega) (by omega)
  have h2:(4611686018427387904:Int)<=a*d/b:=by
   rw [Int.le_ediv_iff_mul_le (by omega)]
   have:(4611686018427387904:Int)*b<=4611686018427387904*18446744073709551616:=Int.mul_le_mul_of_nonneg_left (by omega) (by omega)
   omega
  omega
theorem min_max (a d:Int):min a d*max a d=a*d:=by
 by_cases h:a<=d
 ·rw [Int.min_eq_left h,Int.max_eq_right h]
 ·rw [Int.min_eq_right (by omega),Int.max_eq_left (by omega),Int.mul_comm]
theorem climb_any:ClimbC:=by
 intro a b c d a0 a1 b0 b1 d0 d1 w;have G0:Aside (Gw w (w.alloc (.cells #[.int .u64 a,.int .u64 b,.int .i64 c] 194))):=(Gw.refl w).alloc _ _;have MM:=min_max a d;have m1:min a d<=a/\min a d<=d/\(min a d=a\/min a d=d):=by omega
 have m2:(max a d=a\/max a d=d):=by omega
 obtain ⟨L,hL⟩:∃ L,min a d=L:=⟨_,rfl⟩;obtain ⟨H,hH⟩:∃ H,max a d=H:=⟨_,rfl⟩;rw [hL,hH] at MM;rw [hL] at m1;rw [hH] at m2;have L0:0<=L:=by omega
 have H0:0<=H/\H<18446744073709551616:=by omega
 by_cases h1:9223372036854775807<L
 ·have bad:=climb_far (a:=a) (d:=d) (by omega) (by omega) b0 b1
  have t1:decide (9223372036854775807<L)=true:=by simpa using h1
  rw [if_pos bad,decide_eq_true bad];clear bad MM m1 m2;go_enter func161,ntmps161;go_wp2_with fail;go_quiet (fail);go_wp2_with fail;exact bodyPost_ret (v:=.tuple #[.int .i64 0,.bool false]) (by simp [results,results161,go_sem]) rfl ⟨rfl,G0.out.drewN _⟩
 ·have t1:decide (9223372036854775807<L)=false:=by simpa using h1
  have wl:IntKind.i64.wrap L=L:=by rw [IntKind.wrap_i64];omega
  obtain ⟨X,hX⟩:∃ X,a*d=X:=⟨_,rfl⟩;rw [hX] at MM;have X0:0<=X:=by rw [<-MM];exact Int.mul_nonneg L0 H0.1
  have X1:X<170141183460469231731687303715884105728:=by
   have k1:L*H<=9223372036854775807*H:=Int.mul_le_mul_of_nonneg_right (by omega) H0.1
   omega
  have T1:Hid (∀ w:World,Calls prog 175 #[.int .i64 L,.int .u64 H] w fun e w'=>e=.returned (.agg #[.int .i64 (hiv (X)),.int .u64 (lov (X))])/\Gk 1 w w'):=fun w=>by
   have:=times_any L H (by omega) (by omega) H0.1 H0.2 w
   rw [MM] at this;exact this
  obtain ⟨Q,E,hD⟩:∃ Q E:Int,(0<=Q/\Q<=X/\(E=0\/E=10))/\(ClimbBad a b d↔E=10\/2305843009213693952<Q)/\(¬ E=10->a*d/b=Q)/\∃ r,∀ w:World,Calls prog 174 #[.agg #[.int .i64 (hiv (X)),.int .u64 (lov (X))],.int .u64 b] w fun e w'=>e=.returned (.tuple #[.agg #[.int .i64 (hiv (Q)),.int .u64 (lov (Q))],.int .u64 r,.int .i64 E])/\∃ k,Gk k w w':=by
   by_cases hb:b=0
   ·refine ⟨0,10,⟨by omega,by omega,.inr rfl⟩,⟨fun _=>.inl rfl,fun _=>.inl hb⟩,fun q=>absurd rfl q,0,fun w=>?_⟩
    subst hb;have:=div_zero X w;rw [show hiv 0=0 by decide +kernel,show lov 0=0 by decide +kernel]
    exact this.mono fun e w' h=>⟨h.1,_,h.2⟩
   ·have hp:0<=hiv X:=by have:=sv_of X (by omega) X1;unfold hiv;omega
    refine ⟨X/b,0,⟨Int.ediv_nonneg X0 b0,Int.ediv_le_self _ X0,.inl rfl⟩,?_,fun _=>by rw [hX],X%b,fun w=>?_⟩
    ·unfold ClimbBad
     rw [hX];constructor
     ·rintro (q | q)
      ·exact absurd q hb
      ·exact .inr q
     ·rintro (q | q)
      ·exact absurd q (by omega)
      ·exact .inr q
    ·have:=div_pos X b hp (by omega) b1 w
     rw [sv_of X (by omega) X1] at this
     exact this.mono fun e w' h=>⟨h.1,_,h.2⟩
  obtain ⟨⟨Q0,Q1,EE⟩,BD,QE,r,DV⟩:=hD;have D1:Hid _:=DV;have OF:Hid (∀ w:World,Calls prog 177 #[.int .i64 2305843009213693952] w fun e w'=>e=.returned (.agg #[.int .i64 (hiv (2305843009213693952)),.int .u64 (lov (2305843009213693952))])/\Gk 1 w w'):=fun w=>wof_any 2305843009213693952 (by decide) (by decide) w
  have CM:Hid (∀ w:World,Calls prog 176 #[.agg #[.int .i64 (hiv (Q)),.int .u64 (lov (Q))],.agg #[.int .i64 (hiv (2305843009213693952)),.int .u64 (lov (2305843009213693952))]] w fun e w'=>e=.returned (.int .i64 (cmpi Q 2305843009213693952))/\Gk 2 w w'):=fun w=>by
   have:=cmp_any Q 2305843009213693952 w
   rw [sv_of Q (by omega) (by omega),sv_of 2305843009213693952 (by decide) (by decide)] at this
   exact this
  have FIN:Aside (∀ w',Gw w w'->(∀ v z,(ClimbBad a b d->v=0/\z=false)->(¬ ClimbBad a b d->v=Q/\z=true)->(Ending.returned (.tuple #[.int .i64 v,.bool z])=Ending.returned (.tuple #[.int .i64 (if ClimbBad a b d then 0 else a*d/b),.bool (!decide (ClimbBad a b d))])/\Gw w w'))):=by
   intro w' g v z k1 k2;refine ⟨?_,g⟩;by_cases q:ClimbBad a b d
   ·rw [if_pos q,decide_eq_true q,(k1 q).1,(k1 q).2];rfl
   ·have q':¬ E=10:=fun s=>q (BD.2 (.inl s))
    rw [if_neg q,decide_eq_false q,(k2 q).1,(k2 q).2,QE q'];rfl
  have BD':Aside _:=BD;clear BD QE DV MM hX m1 m2;generalize (if ClimbBad a b d then 0 else a*d/b)=V at FIN ⊢
  generalize (!decide (ClimbBad a b d))=ZZ at FIN ⊢;go_enter func161,ntmps161;go_wp2_with fail;go_quiet (fail);go_wp2_with fail;have c1:((w.alloc (.cells #[.int .u64 a,.int .u64 b,.int .i64 c] 194)).drewN nq).cell? ⟨w.heap.size,1,none⟩=some (.int .u64 b):=by simp [go_sem]
  have l1:w.heap.size<((w.alloc (.cells #[.int .u64 a,.int .u64 b,.int .i64 c] 194)).drewN nq).heap.size:=by simp
  replace G0:Aside (Gw w ((w.alloc (.cells #[.int .u64 a,.int .u64 b,.int .i64 c] 194)).drewN nq)):=G0.out.drewN _
  generalize (w.alloc (.cells #[.int .u64 a,.int .u64 b,.int .i64 c] 194)).drewN nq=wx at c1 l1 G0 ⊢;obtain ⟨N,hN⟩:∃ N,w.heap.size=N:=⟨_,rfl⟩;rw [hN] at c1 l1 ⊢;clear hN;have BF:Hid (∀ w',Gw wx w'->w'.cell? ⟨N,1,none⟩=some (.int .u64 b)/\N<w'.heap.size):=fun w' g=>⟨(g.cell _ _ l1).trans c1,Nat.lt_of_lt_of_le l1 g.size⟩
  go_cut [8,10] (fun s s' w'=>∃ q,s=.pointer (some ⟨q,0,none⟩)/\s'=.int .i64 E/\Aside (Bx w' q 253 (.int .i64 (hiv Q)) (.int .u64 (lov Q)))/\Aside (wx.heap.size<=q)/\Aside (Gw wx w'))
  case first =>
    go_region_with (first
     | (go_at_call 175;refine (T1.out _).mono ?_;rintro ex w4 ⟨rfl,gw4'⟩;have gw4:=gw4'.gb.gw;have Gw4:Hid (Gw wx w4):=(Gw.trans (by repeat (first | exact Gw.refl _ | exact Hid.out (by assumption) | refine Gw.drew ?_ | refine Gw.alloc ?_ _ _)) gw4);obtain ⟨yw4,lw4⟩:=BF.out w4 Gw4.out;(first | (have Nw4:Hid (Bx w4 _ 253 (.int .i64 0) (.int .u64 0)):=(Bx.gw (by first | exact Bx.new _ _ _ _ | exact Bx.drw (Bx.new _ _ _ _) | exact Hid.out (by assumption) | exact Bx.drw (Hid.out (by assumption))) gw4);have z0w4:=Nw4.out.c0;have z1w4:=Nw4.out.c1;have z2w4:=Nw4.out.fz 0;have z3w4:=Nw4.out.fz 1) | skip);clear gw4 gw4')
     | (go_at_call 174;refine (D1.out _).mono ?_;rintro ex w5 ⟨rfl,kw5,gw5'⟩;have gw5:=gw5'.gb.gw;have Gw5:Hid (Gw wx w5):=(Gw.trans (by repeat (first | exact Gw.refl _ | exact Hid.out (by assumption) | refine Gw.drew ?_ | refine Gw.alloc ?_ _ _)) gw5);obtain ⟨yw5,lw5⟩:=BF.out w5 Gw5.out;(first | (have Nw5:Hid (Bx w5 _ 253 (.int .i64 0) (.int .u64 0)):=(Bx.gw (by first | exact Bx.new _ _ _ _ | exact Bx.drw (Bx.new _ _ _ _) | exact Hid.out (by assumption) | exact Bx.drw (Hid.out (by assumption))) gw5);have z0w5:=Nw5.out.c0;have z1w5:=Nw5.out.c1;have z2w5:=Nw5.out.fz 0;have z3w5:=Nw5.out.fz 1) | skip);clear gw5 gw5'))
    all_goals go_wp2_with fail
    all_goals go_meet
    all_goals
     case rel =>
      first
       | exact ⟨w5.heap.size,rfl,rfl,(show Aside _ from Bx.new _ _ _ _),(show Aside _ from Gw5.out.size),(show Aside _ from Gw5.out.alloc _ _)⟩
       | exact ⟨w4.heap.size,rfl,rfl,(show Aside _ from Nw5.out.set _ _),(show Aside _ from Gw4.out.size),(show Aside _ from (Gw5.out.setCell Gw4.out.size _).setCell Gw4.out.size _)⟩
       | exact ⟨wx.heap.size,rfl,rfl,(show Aside _ from Nw5.out.set _ _),(show Aside _ from Nat.le_refl _),(show Aside _ from (Gw5.out.setCell (Nat.le_refl _) _).setCell (Nat.le_refl _) _)⟩
  case rest =>
   obtain ⟨wy,hwy⟩:∃ wy,wy=wc:=⟨_,rfl⟩;subst hwy;obtain ⟨q,rfl,rfl,XO,lq,gy⟩:=hcut;have GY:Aside _:=G0.out.trans gy.out;have x0:=XO.out.c0;have x1:=XO.out.c1;have lt:=XO.out.lt;clear BF c1 l1 G0 gy lq D1 T1;by_cases hE:E=10
   ·subst hE
    have R:=fun w' g=>FIN.out w' g 0 false (fun _=>⟨rfl,rfl⟩) (fun q=>absurd (BD'.out.2 (.inl rfl)) q)
    have RR:Hid _:=R;clear R FIN BD';go_wp2_with fail;go_quiet (fail)
    all_goals go_wp2_with fail
    all_goals exact bodyPost_ret (v:=.tuple #[.int .i64 0,.bool false]) (by simp [results,results161,go_sem]) rfl (RR.out _ (by first | exact GY.out.drewN _ | exact GY.out.drew))
   ·have eE:E=0:=by omega
    subst eE;have BX:Hid (∀ w',Gw wy w'->(w'.cell? ⟨q,0,none⟩=some (.int .i64 (hiv Q))/\w'.cell? ⟨q,1,none⟩=some (.int .u64 (lov Q))/\q<w'.heap.size)):=fun w' g=>⟨(XO.out.gw g).c0,(XO.out.gw g).c1,(XO.out.gw g).lt⟩
    have BD2:Aside (ClimbBad a b d↔2305843009213693952<Q):=⟨fun s=>(BD'.out.1 s).elim (fun t=>absurd t (by decide)) id,fun s=>BD'.out.2 (.inr s)⟩
    clear BD' hE EE;by_cases hQ:2305843009213693952<Q
    ·have cm:cmpi Q 2305843009213693952=1:=by unfold cmpi;rw [if_neg (by omega),if_neg (by omega)]
     have RR:Hid (∀ w',Gw w w'->_):=fun w' g=>FIN.out w' g 0 false (fun _=>⟨rfl,rfl⟩) (fun q=>absurd (BD2.out.2 hQ) q)
     rw [cm] at CM;clear FIN BD2 cm;go_wp2_with fail;go_region_with (first
      | (go_at_call 177;refine (OF.out _).mono ?_;rintro ex v1 ⟨rfl,gv1'⟩;have gv1:=gv1'.gb.gw;have Gv1:Hid (Gw wy v1):=(Gw.trans (by repeat (first | exact Gw.refl _ | exact Hid.out (by assumption) | refine Gw.drew ?_)) gv1);obtain ⟨y1,y2,y3⟩:=BX.out v1 Gv1.out;clear gv1 gv1')
      | (go_at_call 176;refine (CM.out _).mono ?_;rintro ex v2 ⟨rfl,gv2'⟩;have gv2:=gv2'.gb.gw;have Gv2:Hid (Gw wy v2):=(Gw.trans (by repeat (first | exact Gw.refl _ | exact Hid.out (by assumption) | refine Gw.drew ?_)) gv2);obtain ⟨y4,y5,y6⟩:=BX.out v2 Gv2.out;clear gv2 gv2'))
     all_goals go_wp2_with fail
     all_goals exact bodyPost_ret (v:=.tuple #[.int .i64 0,.bool false]) (by simp [results,results161,go_sem]) rfl (RR.out _ (GY.out.trans Gv2.out))
    ·have cm:cmpi Q 2305843009213693952<=0:=by unfold cmpi;split<;>(try split)<;>omega
     have RR:Hid (∀ w',Gw w w'->_):=fun w' g=>FIN.out w' g Q true (fun q=>absurd (BD2.out.1 q) hQ) (fun _=>⟨rfl,rfl⟩)
     obtain ⟨k,hk⟩:∃ k,cmpi Q 2305843009213693952=k:=⟨_,rfl⟩;rw [hk] at CM cm;have t3:decide (0<k)=false:=by simpa using cm
     have lq:Hid (lov Q=Q):=by show _=_;unfold lov;omega
     have wq:IntKind.i64.wrap Q=Q:=by rw [IntKind.wrap_i64];omega
     clear FIN BD2 hk;go_wp2_with fail;go_region_with (first
      | (go_at_call 177;refine (OF.out _).mono ?_;rintro ex v1 ⟨rfl,gv1'⟩;have gv1:=gv1'.gb.gw;have Gv1:Hid (Gw wy v1):=(Gw.trans (by repeat (first | exact Gw.refl _ | exact Hid.out (by assumption) | refine Gw.drew ?_)) gv1);obtain ⟨y1,y2,y3⟩:=BX.out v1 Gv1.out;clear gv1 gv1')
      | (go_at_call 176;refine (CM.out _).mono ?_;rintro ex v2 ⟨rfl,gv2'⟩;have gv2:=gv2'.gb.gw;have Gv2:Hid (Gw wy v2):=(Gw.trans (by repeat (first | exact Gw.refl _ | exact Hid.out (by assumption) | refine Gw.drew ?_)) gv2);obtain ⟨y4,y5,y6⟩:=BX.out v2 Gv2.out;clear gv2 gv2'))
     all_goals (rw [lq.out] at y5;go_wp2_with fail)
     all_goals exact bodyPost_ret (v:=.tuple #[.int .i64 Q,.bool true]) (by simp [results,results161,go_sem]) rfl (RR.out _ (GY.out.trans Gv2.out))
end Go.Proofs.YtemijdhemdhclaaGreat
