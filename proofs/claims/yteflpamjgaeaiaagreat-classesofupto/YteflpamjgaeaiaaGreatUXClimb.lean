/- Package line's 'climb': a slope times a distance, rounded down, or that it is too high. -/
import Derived.Test.YteflpamjgaeaiaaGreatUCFit
import Derived.Test.YteflpamjgaeaiaaGreatUWDiv
import Derived.Test.YteflpamjgaeaiaaGreatUPXm
import Derived.Test.YteflpamjgaeaiaaGreatUL5Of
set_option linter.unusedVariables false
set_option maxHeartbeats 16000000
set_option maxRecDepth 100000
open Go.Proofs.Tryz
namespace Go.Proofs.YteflpamjgaeaiaaGreat
open Go.RowKit
attribute [local go_sem] frozen?_alloc_cells frozen?_new
theorem Bx.drw {w:World} {b:Nat} {t:TypeId} {u v:Value} (h:Bx w b t u v):Bx w.drew b t u v:=h
theorem climb_far {a b d:Int} (a0:9223372036854775807<a) (d0:9223372036854775807<d) (b0:0<=b) (b1:b<18446744073709551616):ClimbBad a b d:=by
 by_cases h:b=0
 ·exact .inl h
 ·right
  have h1:(9223372036854775808:Int)*9223372036854775808<=a*d:=Int.mul_le_mul (by omega) (by omega) (by omega) (by omega)
  have h2:(4611686018427387904:Int)<=a*d/b:=by
   rw [Int.le_ediv_iff_mul_le (by omega)]
   have:(4611686018427387904:Int)*b<=4611686018427387904*18446744073709551616:=Int.mul_le_mul_of_nonneg_left (by omega) (by omega)
   omega
  omega
theorem min_max (a d:Int):min a d*max a d=a*d:=by
 by_cases h:a<=d
 ·rw [Int.min_eq_left h,Int.max_eq_right h]
 ·rw [Int.min_eq_right (by omega),Int.max_eq_left (by omega),Int.mul_comm]
theorem climb_any:ClimbC:=by
 intro a b c d a0 a1 b0 b1 d0 d1 w;have G0:Aside (Gw w (w.alloc (.cells #[.int .u64 a,.int .u64 b,.int .i64 c] 218))):=(Gw.refl w).alloc _ _;have MM:=min_max a d;have m1:min a d<=a/\min a d<=d/\(min a d=a\/min a d=d):=by omega
 have m2:(max a d=a\/max a d=d):=by omega
 obtain ⟨L,hL⟩:∃ L,min a d=L:=⟨_,rfl⟩;obtain ⟨H,hH⟩:∃ H,max a d=H:=⟨_,rfl⟩;rw [hL,hH] at MM;rw [hL] at m1;rw [hH] at m2;have L0:0<=L:=by omega
 have H0:0<=H/\H<18446744073709551616:=by omega
 by_cases h1:9223372036854775807<L
 ·have bad:=climb_far (a:=a) (d:=d) (by omega) (by omega) b0 b1
  have t1:decide (9223372036854775807<L)=true:=by simpa using h1
  rw [if_pos bad,decide_eq_true bad];clear bad MM m1 m2;go_enter func222,ntmps222;go_wp2_with fail;go_quiet (fail);go_wp2_with fail;exact bodyPost_ret (v:=.tuple #[.int .i64 0,.bool false]) (by simp [results,results222,go_sem]) rfl ⟨rfl,G0.out.drewN _⟩
 ·have t1:decide (9223372036854775807<L)=false:=by simpa using h1
  have wl:IntKind.i64.wrap L=L:=by rw [IntKind.wrap_i64];omega
  obtain ⟨X,hX⟩:∃ X,a*d=X:=⟨_,rfl⟩;rw [hX] at MM;have X0:0<=X:=by rw [<-MM];exact Int.mul_nonneg L0 H0.1
  have X1:X<170141183460469231731687303715884105728:=by
   have k1:L*H<=9223372036854775807*H:=Int.mul_le_mul_of_nonneg_right (by omega) H0.1
   omega
  have T1:Hid (∀ w:World,Calls prog 247 #[.int .i64 L,.int .u64 H] w fun e w'=>e=.returned (.agg #[.int .i64 (hiv (X)),.int .u64 (lov (X))])/\Gk 1 w w'):=fun w=>by
   have:=times_any L H (by omega) (by omega) H0.1 H0.2 w
   rw [MM] at this;exact this
  obtain ⟨Q,E,hD⟩:∃ Q E:Int,(0<=Q/\Q<=X/\(E=0\/E=10))/\(ClimbBad a b d↔E=10\/2305843009213693952<Q)/\(¬ E=10->a*d/b=Q)/\∃ r,∀ w:World,Calls prog 246 #[.agg #[.int .i64 (hiv (X)),.int .u64 (lov (X))],.int .u64 b] w fun e w'=>e=.returned (.tuple #[.agg #[.int .i64 (hiv (Q)),.int .u64 (lov (Q))],.int .u64 r,.int .i64 E])/\∃ k,Gk k w w':=by
   by_cases hb:b=0
   ·refine ⟨0,10,⟨by omega,by omega,.inr rfl⟩,⟨fun _=>.inl rfl,fun _=>.inl hb⟩,fun q=>absurd rfl q,0,fun w=>?_⟩
    subst hb;have:=div_zero X w;rw [show hiv 0=0 by decide +kernel,show lov 0=0 by decide +kernel]
    exact this.mono fun e w' h=>⟨h.1,_,h.2⟩
   ·have hp:0<=hiv X:=by have:=sv_of X (by omega) X1;unfold hiv;omega
    refine ⟨X/b,0,⟨Int.ediv_nonneg X0 b0,Int.ediv_le_self _ X0,.inl rfl⟩,?_,fun _=>by rw [hX],X%b,fun w=>?_⟩
    ·unfold ClimbBad
     rw [hX];constructor
     ·rintro (q | q)
      ·exact absurd q hb
      ·exact .inr q
     ·rintro (q | q)
      ·exact absurd q (by omega)
      ·exact .inr q
    ·have:=div_pos X b hp (by omega) b1 w
     rw [sv_of X (by omega) X1] at this
     exact this.mono fun e w' h=>⟨h.1,_,h.2⟩
  obtain ⟨⟨Q0,Q1,EE⟩,BD,QE,r,DV⟩:=hD;have D1:Hid (∀ w:World,Calls prog 246 #[.agg #[.int .i64 (hiv (X)),.int .u64 (lov (X))],.int .u64 b] w fun e w'=>e=.returned (.tuple #[.agg #[.int .i64 (hiv (Q)),.int .u64 (lov (Q))],.int .u64 r,.int .i64 E])/\∃ k,Gk k w w'):=DV
  have OF:Hid (∀ w:World,Calls prog 249 #[.int .i64 2305843009213693952] w fun e w'=>e=.returned (.agg #[.int .i64 (hiv (2305843009213693952)),.int .u64 (lov (2305843009213693952))])/\Gk 1 w w'):=fun w=>wof_any 2305843009213693952 (by decide) (by decide) w
  have CM:Hid (∀ w:World,Calls prog 248 #[.agg #[.int .i64 (hiv (Q)),.int .u64 (lov (Q))],.agg #[.int .i64 (hiv (2305843009213693952)),.int .u64 (lov (2305843009213693952))]] w fun e w'=>e=.returned (.int .i64 (cmpi Q 2305843009213693952))/\Gk 2 w w'):=fun w=>by
   have:=cmp_any Q 2305843009213693952 w
   rw [sv_of Q (by omega) (by omega),sv_of 2305843009213693952 (by decide) (by decide)] at this
   exact this
  have FIN:Aside (∀ w',Gw w w'->(∀ v z,(ClimbBad a b d->v=0/\z=false)->(¬ ClimbBad a b d->v=Q/\z=true)->(Ending.returned (.tuple #[.int .i64 v,.bool z])=Ending.returned (.tuple #[.int .i64 (if ClimbBad a b d then 0 else a*d/b),.bool (!decide (ClimbBad a b d))])/\Gw w w'))):=by
   intro w' g v z k1 k2;refine ⟨?_,g⟩;by_cases q:ClimbBad a b d
   ·rw [if_pos q,decide_eq_true q,(k1 q).1,(k1 q).2];rfl
   ·have q':¬ E=10:=fun s=>q (BD.2 (.inl s))
    rw [if_neg q,decide_eq_false q,(k2 q).1,(k2 q).2,QE q'];rfl
  have BD':Aside (ClimbBad a b d↔E=10\/2305843009213693952<Q):=BD;clear BD QE DV MM hX m1 m2;generalize (if ClimbBad a b d then 0 else a*d/b)=V at FIN ⊢
  generalize (!decide (ClimbBad a b d))=ZZ at FIN ⊢;go_enter func222,ntmps222;go_wp2_with fail;go_quiet (fail);go_wp2_with fail;have c1:((w.alloc (.cells #[.int .u64 a,.int .u64 b,.int .i64 c] 218)).drewN nq).cell? ⟨w.heap.size,1,none⟩=some (.int .u64 b):=by simp [go_sem]
  have l1:w.heap.size<((w.alloc (.cells #[.int .u64 a,.int .u64 b,.int .i64 c] 218)).drewN nq).heap.size:=by simp
  replace G0:Aside (Gw w ((w.alloc (.cells #[.int .u64 a,.int .u64 b,.int .i64 c] 218)).drewN nq)):=G0.out.drewN _
  generalize (w.alloc (.cells #[.int .u64 a,.int .u64 b,.int .i64 c] 218)).drewN nq=wx at c1 l1 G0 ⊢;obtain ⟨N,hN⟩:∃ N,w.heap.size=N:=⟨_,rfl⟩;rw [hN] at c1 l1 ⊢;clear hN;have BF:Hid (∀ w',Gw wx w'->w'.cell? ⟨N,1,none⟩=some (.int .u64 b)/\N<w'.heap.size):=fun w' g=>⟨(g.cell _ _ l1).trans c1,Nat.lt_of_lt_of_le l1 g.size⟩
  go_cut [8,10] (fun s s' w'=>∃ q,s=.pointer (some ⟨q,0,none⟩)/\s'=.int .i64 E/\Aside (Bx w' q 283 (.int .i64 (hiv Q)) (.int .u64 (lov Q)))/\Aside (wx.heap.size<=q)/\Aside (Gw wx w'))
  case first =>
    go_region_with (first
     | (go_at_call 247;refine (T1.out _).mono ?_;rintro ex w4 ⟨rfl,gw4'⟩;have gw4:=gw4'.gb.gw;have Gw4:Hid (Gw wx w4):=(Gw.trans (by repeat (first | exact Gw.refl _ | exact Hid.out (by assumption) | refine Gw.drew ?_ | refine Gw.alloc ?_ _ _)) gw4);obtain ⟨yw4,lw4⟩:=BF.out w4 Gw4.out;(first | (have Nw4:Hid (Bx w4 _ 283 (.int .i64 0) (.int .u64 0)):=(Bx.gw (by first | exact Bx.new _ _ _ _ | exact Bx.drw (Bx.new _ _ _ _) | exact Hid.out (by assumption) | exact Bx.drw (Hid.out (by assumption))) gw4);have z0w4:=Nw4.out.c0;have z1w4:=Nw4.out.c1;have z2w4:=Nw4.out.fz 0;have z3w4:=Nw4.out.fz 1) | skip);clear gw4 gw4')
     | (go_at_call 246;refine (D1.out _).mono ?_;rintro ex w5 ⟨rfl,kw5,gw5'⟩;have gw5:=gw5'.gb.gw;have Gw5:Hid (Gw wx w5):=(Gw.trans (by repeat (first | exact Gw.refl _ | exact Hid.out (by assumption) | refine Gw.drew ?_ | refine Gw.alloc ?_ _ _)) gw5);obtain ⟨yw5,lw5⟩:=BF.out w5 Gw5.out;(first | (have Nw5:Hid (Bx w5 _ 283 (.int .i64 0) (.int .u64 0)):=(Bx.gw (by first | exact Bx.new _ _ _ _ | exact Bx.drw (Bx.new _ _ _ _) | exact Hid.out (by assumption) | exact Bx.drw (Hid.out (by assumption))) gw5);have z0w5:=Nw5.out.c0;have z1w5:=Nw5.out.c1;have z2w5:=Nw5.out.fz 0;have z3w5:=Nw5.out.fz 1) | skip);clear gw5 gw5'))
    all_goals go_wp2_with fail
    all_goals go_meet
    all_goals
     case rel =>
      first
       | exact ⟨w5.heap.size,rfl,rfl,(show Aside _ from Bx.new _ _ _ _),(show Aside _ from Gw5.out.size),(show Aside _ from Gw5.out.alloc _ _)⟩
       | exact ⟨w4.heap.size,rfl,rfl,(show Aside _ from Nw5.out.set _ _),(show Aside _ from Gw4.out.size),(show Aside _ from (Gw5.out.setCell Gw4.out.size _).setCell Gw4.out.size _)⟩
       | exact ⟨wx.heap.size,rfl,rfl,(show Aside _ from Nw5.out.set _ _),(show Aside _ from Nat.le_refl _),(show Aside _ from (Gw5.out.setCell (Nat.le_refl _) _).setCell (Nat.le_refl _) _)⟩
  case rest =>
   obtain ⟨wy,hwy⟩:∃ wy,wy=wc:=⟨_,rfl⟩;subst hwy;obtain ⟨q,rfl,rfl,XO,lq,gy⟩:=hcut;have GY:Aside (Gw w wy):=G0.out.trans gy.out;have x0:=XO.out.c0;have x1:=XO.out.c1;have lt:=XO.out.lt;clear BF c1 l1 G0 gy lq D1 T1;by_cases hE:E=10
   ·subst hE
    have R:=fun w' g=>FIN.out w' g 0 false (fun _=>⟨rfl,rfl⟩) (fun q=>absurd (BD'.out.2 (.inl rfl)) q)
    have RR:Hid _:=R;clear R FIN BD';go_wp2_with fail;go_quiet (fail)
    all_goals go_wp2_with fail
    all_goals exact bodyPost_ret (v:=.tuple #[.int .i64 0,.bool false]) (by simp [results,results222,go_sem]) rfl (RR.out _ (by first | exact GY.out.drewN _ | exact GY.out.drew))
   ·have eE:E=0:=by omega
    subst eE;have BX:Hid (∀ w',Gw wy w'->(w'.cell? ⟨q,0,none⟩=some (.int .i64 (hiv Q))/\w'.cell? ⟨q,1,none⟩=some (.int .u64 (lov Q))/\q<w'.heap.size)):=fun w' g=>⟨(XO.out.gw g).c0,(XO.out.gw g).c1,(XO.out.gw g).lt⟩
    have BD2:Aside (ClimbBad a b d↔2305843009213693952<Q):=⟨fun s=>(BD'.out.1 s).elim (fun t=>absurd t (by decide)) id,fun s=>BD'.out.2 (.inr s)⟩
    clear BD' hE EE;by_cases hQ:2305843009213693952<Q
    ·have cm:cmpi Q 2305843009213693952=1:=by unfold cmpi;rw [if_neg (by omega),if_neg (by omega)]
     have RR:Hid (∀ w',Gw w w'->_):=fun w' g=>FIN.out w' g 0 false (fun _=>⟨rfl,rfl⟩) (fun q=>absurd (BD2.out.2 hQ) q)
     rw [cm] at CM;clear FIN BD2 cm;go_wp2_with fail;go_region_with (first
      | (go_at_call 249;refine (OF.out _).mono ?_;rintro ex v1 ⟨rfl,gv1'⟩;have gv1:=gv1'.gb.gw;have Gv1:Hid (Gw wy v1):=(Gw.trans (by repeat (first | exact Gw.refl _ | exact Hid.out (by assumption) | refine Gw.drew ?_)) gv1);obtain ⟨y1,y2,y3⟩:=BX.out v1 Gv1.out;clear gv1 gv1')
      | (go_at_call 248;refine (CM.out _).mono ?_;rintro ex v2 ⟨rfl,gv2'⟩;have gv2:=gv2'.gb.gw;have Gv2:Hid (Gw wy v2):=(Gw.trans (by repeat (first | exact Gw.refl _ | exact Hid.out (by assumption) | refine Gw.drew ?_)) gv2);obtain ⟨y4,y5,y6⟩:=BX.out v2 Gv2.out;clear gv2 gv2'))
     all_goals go_wp2_with fail
     all_goals exact bodyPost_ret (v:=.tuple #[.int .i64 0,.bool false]) (by simp [results,results222,go_sem]) rfl (RR.out _ (GY.out.trans Gv2.out))
    ·have cm:cmpi Q 2305843009213693952<=0:=by unfold cmpi;split<;>(try split)<;>omega
     have RR:Hid (∀ w',Gw w w'->_):=fun w' g=>FIN.out w' g Q true (fun q=>absurd (BD2.out.1 q) hQ) (fun _=>⟨rfl,rfl⟩)
     obtain ⟨k,hk⟩:∃ k,cmpi Q 2305843009213693952=k:=⟨_,rfl⟩;rw [hk] at CM cm;have t3:decide (0<k)=false:=by simpa using cm
     have lq:Hid (lov Q=Q):=by show _=_;unfold lov;omega
     have wq:IntKind.i64.wrap Q=Q:=by rw [IntKind.wrap_i64];omega
     clear FIN BD2 hk;go_wp2_with fail;go_region_with (first
      | (go_at_call 249;refine (OF.out _).mono ?_;rintro ex v1 ⟨rfl,gv1'⟩;have gv1:=gv1'.gb.gw;have Gv1:Hid (Gw wy v1):=(Gw.trans (by repeat (first | exact Gw.refl _ | exact Hid.out (by assumption) | refine Gw.drew ?_)) gv1);obtain ⟨y1,y2,y3⟩:=BX.out v1 Gv1.out;clear gv1 gv1')
      | (go_at_call 248;refine (CM.out _).mono ?_;rintro ex v2 ⟨rfl,gv2'⟩;have gv2:=gv2'.gb.gw;have Gv2:Hid (Gw wy v2):=(Gw.trans (by repeat (first | exact Gw.refl _ | exact Hid.out (by assumption) | refine Gw.drew ?_)) gv2);obtain ⟨y4,y5,y6⟩:=BX.out v2 Gv2.out;clear gv2 gv2'))
     all_goals (rw [lq.out] at y5;go_wp2_with fail)
     all_goals exact bodyPost_ret (v:=.tuple #[.int .i64 Q,.bool true]) (by simp [results,results222,go_sem]) rfl (RR.out _ (GY.out.trans Gv2.out))
end Go.Proofs.YteflpamjgaeaiaaGreat
namespace Go.Proofs.YteflpamjgaeaiaaGreat
open Go.RowKit
def LineOfC:Prop:=∀ (eps:Int) (ao:Option Addr) (n cp:Nat) (f:Nat->Int),-9223372036854775808<=eps->eps<9223372036854775808->n<=2000000->∀ w:World,KS w ao n f ->
 Calls prog 177 #[.slice ao n cp,.int .i64 eps] w fun ex w'=>(∃ a b c err:Int,ex=.returned (.tuple #[.agg #[.int .u64 a,.int .u64 b,.int .i64 c],.int .i64 err])/\OfR eps f n a b c err/\(0<=a/\a<18446744073709551616)/\(0<=b/\b<18446744073709551616)/\(-9223372036854775808<=c/\c<9223372036854775808))/\Gw w w'
attribute [local go_sem] run_store_float
theorem xnear_ex {a b:Nat} (a1:a<18446744073709551616) (b1:b<18446744073709551616) (b0:0<b):∃ s,Nr (a*Un) b s/\∀ w,Calls prog 178 #[.int .u64 a,.int .u64 b] w fun e w'=>e=.returned (.tuple #[.float .f64 s,.int .i64 0])/\∃ n,w'=w.drewN n:=by
 by_cases z:a=0
 ·subst z
  exact ⟨0,by rw [Nat.zero_mul];exact Nr.zero b b0,fun w=>(near_zero_num b b0 w).mono fun e w' h=>⟨h.1,0,h.2⟩⟩
 ·obtain ⟨s,hs,-,-,h⟩:=near_ex a b a1 b1 (by omega) b0
  exact ⟨s,hs,h⟩
theorem xof7_any (O5:LineOfC) (eps fr:Int) (ao:Option Addr) (n cp:Nat) (f:Nat->Int) (p0:-9223372036854775808<=eps) (p1:eps<9223372036854775808) (q0:-9223372036854775808<=fr) (q1:fr<9223372036854775808) (hn:n<=2000000) (w:World) (K:KS w ao n f) :
  Calls prog 153 #[.slice ao n cp,.int .i64 eps,.int .i64 fr] w fun ex w'=>(∃ (k:Int) (s ic:Nat) (F T er:Int),ex=.returned (.tuple #[segV k s ic F T,.int .i64 er])/\SegR eps fr f n k s ic F T er)/\Gw w w':=by
 have G0:Aside (Gw w (w.alloc (.cells #[.int .u64 0,.float .f64 0,.float .f64 0,.int .i64 0,.int .i64 0] 177))):=(Gw.refl w).alloc _ _;have Z0:Aside (Sb (w.alloc (.cells #[.int .u64 0,.float .f64 0,.float .f64 0,.int .i64 0,.int .i64 0] 177)) w.heap.size 0 0 0 0 0):=heap_alloc_new w _;have O:Hid _:=fun W (g:Gw w W)=>O5 eps ao n cp f p0 p1 hn W (K.gw g)
 have K':Hid (KS w ao n f):=K;clear K O5;go_enter func153,ntmps153;go_wp2_with fail;refine (O.out _ G0.out).mono ?_;rintro ex w1 ⟨⟨a,b,c,er,rfl,R0,ab,bb,cb⟩,g1⟩;have G:Aside (Gw w w1):=G0.out.trans g1;have Z:Aside (Sb w1 w.heap.size 0 0 0 0 0):=Z0.out.gw g1;clear G0 Z0 g1 O;by_cases h:er=0
 ·subst h
  obtain ⟨z0,z1,z2,z3,z4⟩:=Z.out.cells;have zl:=Z.out.lt;have y0:=Z.out.fz 0;have y1:=Z.out.fz 1;have y2:=Z.out.fz 2;have y3:=Z.out.fz 3;have y4:=Z.out.fz 4;by_cases h1:fr<0
  ·have t2:decide (fr<0)=true:=by simpa using h1
   have R:Aside (SegR eps fr f n 0 0 0 0 0 1):=.inr (.inl ⟨a,b,c,R0,fun q=>by omega,rfl,rfl,rfl,rfl,rfl,rfl⟩)
   clear R0 h1;go_wp2_with fail;refine bodyPost_ret (v:=.tuple #[segV 0 0 0 0 0,.int .i64 1]) (by simp [results,results153,go_sem,zl,z0,z1,z2,z3,z4]) rfl ⟨⟨0,0,0,0,0,1,rfl,R.out⟩,?_⟩
   refine Gw.alloc (Gw.setCell (Gw.setCell (Gw.setCell (Gw.setCell (Gw.setCell G.out ?_ _) ?_ _) ?_ _) ?_ _) ?_ _) _ _<;>exact Nat.le_refl _
  ·have t2:decide (fr<0)=false:=by simpa using h1
   have wz:IntKind.i64.wrap (4294967296-(n:Int))=4294967296-(n:Int):=by rw [IntKind.wrap_i64];omega
   by_cases h2:4294967296-(n:Int)<fr
   ·have t3:decide (4294967296-(n:Int)<fr)=true:=by simpa using h2
    have R:Aside (SegR eps fr f n 0 0 0 0 0 1):=.inr (.inl ⟨a,b,c,R0,fun q=>by omega,rfl,rfl,rfl,rfl,rfl,rfl⟩)
    clear R0 h1 h2;go_wp2_with fail;refine bodyPost_ret (v:=.tuple #[segV 0 0 0 0 0,.int .i64 1]) (by simp [results,results153,go_sem,zl,z0,z1,z2,z3,z4]) rfl ⟨⟨0,0,0,0,0,1,rfl,R.out⟩,?_⟩
    refine Gw.alloc (Gw.setCell (Gw.setCell (Gw.setCell (Gw.setCell (Gw.setCell G.out ?_ _) ?_ _) ?_ _) ?_ _) ?_ _) _ _<;>exact Nat.le_refl _
   ·have t3:decide (4294967296-(n:Int)<fr)=false:=by simpa using h2
    obtain ⟨A,rfl⟩:∃ A:Nat,a=A:=⟨a.toNat,by omega⟩
    obtain ⟨B,rfl⟩:∃ B:Nat,b=B:=⟨b.toNat,by omega⟩
    have T:Told eps f n A B c:=by
     rcases R0.cases with ⟨q,_⟩ | ⟨_,q⟩
     ·exact absurd rfl q
     ·exact q
    have B1:=T.low.b1;have n0:=T.n0;have cc:=(T.stays (by omega)).2
    have ee:=T.e1;have eh:=T.e2;clear T;obtain ⟨s,hs,NE⟩:=xnear_ex (a:=A) (b:=B) (by omega) (by omega) (by omega)
    have NE':Hid _:=NE;obtain ⟨bk,off,rfl,hb,hc⟩:=(K'.out.gw G.out).cells n0;have c0:w1.cell? ⟨bk,off,none⟩=some (.int .u64 (f 0)):=hc 0 n0;obtain ⟨f0,hf⟩:∃ f0,f 0=f0:=⟨_,rfl⟩;rw [hf] at c0;have wy:IntKind.i64.wrap (fr+c)=fr+c:=by rw [IntKind.wrap_i64];omega
    have wx:IntKind.i64.wrap (fr+(n:Int))=fr+(n:Int):=by rw [IntKind.wrap_i64];omega
    have R:Aside (SegR eps fr f n f0 s (floatOfInt .f64 (fr+c)) fr (fr+n) 0):=.inr (.inr ⟨A,B,c,R0,⟨by omega,by omega⟩,⟨by omega,by omega⟩,by rw [Int.toNat_natCast,Int.toNat_natCast];exact hs,hf.symm,rfl,rfl,rfl,rfl⟩)
    have bz:bk≠w.heap.size:=by
     intro q;obtain ⟨bk',off',e,hb',-⟩:=K'.out.cells n0;cases e;omega
    clear R0 hs hf hc NE h1 h2;go_wp2_with fail;refine (NE'.out _).mono ?_;rintro ex w2 ⟨rfl,nq,rfl⟩;go_wp2_with fail;go_region
    all_goals go_wp2_with fail
    all_goals refine bodyPost_ret (v:=.tuple #[segV f0 s (floatOfInt .f64 (fr+c)) fr (fr+n),.int .i64 0]) (by simp [results,results153,go_sem,zl,z0,z1,z2,z3,z4]) rfl ⟨⟨f0,s,floatOfInt .f64 (fr+c),fr,fr+n,0,rfl,R.out⟩,?_⟩
    all_goals (repeat (first | exact G.out | refine Gw.drew ?_ | refine Gw.drewN ?_ _ | refine Gw.alloc ?_ _ _ | refine Gw.setCell ?_ (Nat.le_refl _) _))
 ·have t1:(er != 0)=true:=by simpa using h
  have R:Aside (SegR eps fr f n 0 0 0 0 0 er):=.inl ⟨a,b,c,R0,h,rfl,rfl,rfl,rfl,rfl⟩;clear R0 h;obtain ⟨z0,z1,z2,z3,z4⟩:=Z.out.cells;have zl:=Z.out.lt;have y0:=Z.out.fz 0;have y1:=Z.out.fz 1;have y2:=Z.out.fz 2;have y3:=Z.out.fz 3;have y4:=Z.out.fz 4;go_wp2_with fail;refine bodyPost_ret (v:=.tuple #[segV 0 0 0 0 0,.int .i64 er]) (by simp [results,results153,go_sem,zl,z0,z1,z2,z3,z4]) rfl ⟨⟨0,0,0,0,0,er,rfl,R.out⟩,?_⟩
  refine Gw.alloc (Gw.setCell (Gw.setCell (Gw.setCell (Gw.setCell (Gw.setCell G.out ?_ _) ?_ _) ?_ _) ?_ _) ?_ _) _ _<;>exact Nat.le_refl _
end Go.Proofs.YteflpamjgaeaiaaGreat
namespace Go.Proofs.YteflpamjgaeaiaaGreat
open Go.RowKit
theorem lineof:LineOfC:=fun eps ao n cp f p0 p1 hn w h=>xof_any climb_any hullc eps ao n cp f p0 p1 hn w h
theorem modelc:ModelC where
 check k sl ic fr te h w:=xcheck_any k sl ic fr te h.s1 h.i1 w
 guess k sl ic fr te q h q0 q1 w:=xguess_any k sl ic fr te q h.k0 h.k1 h.s1 h.i1 q0 q1 w
 off k sl ic fr te ao n cp f h hn hcp w K:=xoff_any k sl ic fr te h.k0 h.k1 h.s1 h.i1 h.f0 h.f1 h.t0 h.t1 ao n cp f (by omega) w K
 of eps fr ao n cp f p0 p1 q0 q1 hn hcp w K:=xof7_any lineof eps fr ao n cp f p0 p1 q0 q1 hn w K
end Go.Proofs.YteflpamjgaeaiaaGreat
