/- Package line's 'climb': a slope times a distance, rounded down, or that it is too high. -/
import Derived.Test.YtklkpldicbkjeaaGreatVCFit
import Derived.Test.YtklkpldicbkjeaaGreatVWDiv
import Derived.Test.YtklkpldicbkjeaaGreatVPXm
import Derived.Test.YtklkpldicbkjeaaGreatVL5Of
set_option linter.unusedVariables false
set_option maxHeartbeats 16000000
set_option maxRecDepth 100000
open Go.Proofs.Tryz
namespace Go.Proofs.YtklkpldicbkjeaaGreat
open Go.RowKit
attribute [local go_sem] frozen?_alloc_cells dD
theorem Bx.drw {w:World} {b:Nat} {t:TypeId} {u v:Value} (h:Bx w b t u v):Bx w.drew b t u v:=h
theorem aeI {a b d:Int} (a0:9223372036854775807<a) (d0:9223372036854775807<d) (b0:0<=b) (b1:b<18446744073709551616):iy a b d:=by
 by_cases h:b=0
 ·exact .inl h
 ·right
  have h1:(9223372036854775808:Int)*9223372036854775808<=a*d:=Int.mul_le_mul (by omega) (by omega) (by omega) (by omega)
  have h2:(4611686018427387904:Int)<=a*d/b:=by
   rw [Int.le_ediv_iff_mul_le (by omega)]
   have:(4611686018427387904:Int)*b<=4611686018427387904*18446744073709551616:=Int.mul_le_mul_of_nonneg_left (by omega) (by omega)
   omega
  omega
theorem aeJ (a d:Int):min a d*max a d=a*d:=by
 by_cases h:a<=d
 ·rw [Int.min_eq_left h,Int.max_eq_right h]
 ·rw [Int.min_eq_right (by omega),Int.max_eq_left (by omega),Int.mul_comm]
theorem aeK:Ck:=by
 intro a b c d a0 a1 b0 b1 d0 d1 w;have G0:ag (Gw w (w.alloc (.cells #[.int .u64 a,.int .u64 b,.int .i64 c] 166))):=(Gw.refl w).alloc _ _;have MM:=aeJ a d;have m1:min a d<=a/\min a d<=d/\(min a d=a\/min a d=d):=by omega
 have m2:(max a d=a\/max a d=d):=by omega
 obtain ⟨L,hL⟩:∃ L,min a d=L:=⟨_,rfl⟩;obtain ⟨H,hH⟩:∃ H,max a d=H:=⟨_,rfl⟩;rw [hL,hH] at MM;rw [hL] at m1;rw [hH] at m2;have L0:0<=L:=by omega
 have H0:0<=H/\H<18446744073709551616:=by omega
 by_cases h1:9223372036854775807<L
 ·have bad:=aeI (a:=a) (d:=d) (by omega) (by omega) b0 b1
  have t1:decide (9223372036854775807<L)=true:=by simpa using h1
  rw [if_pos bad,decide_eq_true bad];clear bad MM m1 m2;go_enter func159,ntmps159;go_wp2_with fail;go_quiet (fail);go_wp2_with fail;exact bodyPost_ret (v:=.tuple #[.int .i64 0,.bool false]) (by simp [results,results159,go_sem]) rfl ⟨rfl,G0.o.drewN _⟩
 ·have t1:decide (9223372036854775807<L)=false:=by simpa using h1
  have wl:IntKind.i64.wrap L=L:=by rw [IntKind.wrap_i64];omega
  obtain ⟨X,hX⟩:∃ X,a*d=X:=⟨_,rfl⟩;rw [hX] at MM;have X0:0<=X:=by rw [<-MM];exact Int.mul_nonneg L0 H0.1
  have X1:X<170141183460469231731687303715884105728:=by
   have k1:L*H<=9223372036854775807*H:=Int.mul_le_mul_of_nonneg_right (by omega) H0.1
   omega
  have T1:ag (∀ w:World,Calls prog 183 #[.int .i64 L,.int .u64 H] w fun e w'=>e=.returned (.agg #[.int .i64 (aq (X)),.int .u64 (ar (X))])/\Gk 1 w w'):=fun w=>by
   have:=Iu L H (by omega) (by omega) H0.1 H0.2 w
   rw [MM] at this;exact this
  obtain ⟨Q,E,hD⟩:∃ Q E:Int,(0<=Q/\Q<=X/\(E=0\/E=10))/\(iy a b d↔E=10\/2305843009213693952<Q)/\(¬ E=10->a*d/b=Q)/\∃ r,∀ w:World,Calls prog 182 #[.agg #[.int .i64 (aq (X)),.int .u64 (ar (X))],.int .u64 b] w fun e w'=>e=.returned (.tuple #[.agg #[.int .i64 (aq (Q)),.int .u64 (ar (Q))],.int .u64 r,.int .i64 E])/\∃ k,Gk k w w':=by
   by_cases hb:b=0
   ·refine ⟨0,10,⟨by omega,by omega,.inr rfl⟩,⟨fun _=>.inl rfl,fun _=>.inl hb⟩,fun q=>absurd rfl q,0,fun w=>?_⟩
    subst hb;have:=div_zero X w;rw [show aq 0=0 by decide +kernel,show ar 0=0 by decide +kernel]
    exact this.mono fun e w' h=>⟨h.1,_,h.2⟩
   ·have hp:0<=aq X:=by have:=pV X (by omega) X1;unfold aq;omega
    refine ⟨X/b,0,⟨Int.ediv_nonneg X0 b0,Int.ediv_le_self _ X0,.inl rfl⟩,?_,fun _=>by rw [hX],X%b,fun w=>?_⟩
    ·unfold iy
     rw [hX];constructor
     ·rintro (q | q)
      ·exact absurd q hb
      ·exact .inr q
     ·rintro (q | q)
      ·exact absurd q (by omega)
      ·exact .inr q
    ·have:=div_pos X b hp (by omega) b1 w
     rw [pV X (by omega) X1] at this
     exact this.mono fun e w' h=>⟨h.1,_,h.2⟩
  obtain ⟨⟨Q0,Q1,EE⟩,BD,QE,r,DV⟩:=hD;have D1:ag _:=DV;have OF:ag (∀ w:World,Calls prog 185 #[.int .i64 2305843009213693952] w fun e w'=>e=.returned (.agg #[.int .i64 (aq (2305843009213693952)),.int .u64 (ar (2305843009213693952))])/\Gk 1 w w'):=fun w=>aee 2305843009213693952 (by decide) (by decide) w
  have CM:ag (∀ w:World,Calls prog 184 #[.agg #[.int .i64 (aq (Q)),.int .u64 (ar (Q))],.agg #[.int .i64 (aq (2305843009213693952)),.int .u64 (ar (2305843009213693952))]] w fun e w'=>e=.returned (.int .i64 (bI Q 2305843009213693952))/\Gk 2 w w'):=fun w=>by
   have:=Ur Q 2305843009213693952 w
   rw [pV Q (by omega) (by omega),pV 2305843009213693952 (by decide) (by decide)] at this
   exact this
  have aJ:ag (∀ w',Gw w w'->(∀ v z,(iy a b d->v=0/\z=false)->(¬ iy a b d->v=Q/\z=true)->(Ending.returned (.tuple #[.int .i64 v,.bool z])=Ending.returned (.tuple #[.int .i64 (if iy a b d then 0 else a*d/b),.bool (!decide (iy a b d))])/\Gw w w'))):=by
   intro w' g v z k1 k2;refine ⟨?_,g⟩;by_cases q:iy a b d
   ·rw [if_pos q,decide_eq_true q,(k1 q).1,(k1 q).2];rfl
   ·have q':¬ E=10:=fun s=>q (BD.2 (.inl s))
    rw [if_neg q,decide_eq_false q,(k2 q).1,(k2 q).2,QE q'];rfl
  have xY:ag _:=BD;clear BD QE DV MM hX m1 m2;generalize (if iy a b d then 0 else a*d/b)=V at aJ ⊢
  generalize (!decide (iy a b d))=ZZ at aJ ⊢;go_enter func159,ntmps159;go_wp2_with fail;go_quiet (fail);go_wp2_with fail;have c1:((w.alloc (.cells #[.int .u64 a,.int .u64 b,.int .i64 c] 166)).drewN nq).cell? ⟨w.heap.size,1,none⟩=some (.int .u64 b):=by simp [go_sem]
  have l1:w.heap.size<((w.alloc (.cells #[.int .u64 a,.int .u64 b,.int .i64 c] 166)).drewN nq).heap.size:=by simp
  replace G0:ag (Gw w ((w.alloc (.cells #[.int .u64 a,.int .u64 b,.int .i64 c] 166)).drewN nq)):=G0.o.drewN _
  generalize (w.alloc (.cells #[.int .u64 a,.int .u64 b,.int .i64 c] 166)).drewN nq=wx at c1 l1 G0 ⊢;obtain ⟨N,hN⟩:∃ N,w.heap.size=N:=⟨_,rfl⟩;rw [hN] at c1 l1 ⊢;clear hN;have BF:ag (∀ w',Gw wx w'->w'.cell? ⟨N,1,none⟩=some (.int .u64 b)/\N<w'.heap.size):=fun w' g=>⟨(g.cell _ _ l1).trans c1,Nat.lt_of_lt_of_le l1 g.size⟩
  go_cut [8,10] (fun s s' w'=>∃ q,s=.pointer (some ⟨q,0,none⟩)/\s'=.int .i64 E/\ag (Bx w' q 223 (.int .i64 (aq Q)) (.int .u64 (ar Q)))/\ag (wx.heap.size<=q)/\ag (Gw wx w'))
  case first =>
    go_region_with (first
     | (go_at_call 183;refine (T1.o _).mono ?_;rintro ex w4 ⟨rfl,oB⟩;have jQ:=oB.gb.gw;have ju:ag (Gw wx w4):=(Gw.trans (by repeat (first | exact Gw.refl _ | exact ag.o (by assumption) | refine Gw.drew ?_ | refine Gw.alloc ?_ _ _)) jQ);obtain ⟨VC,VD⟩:=BF.o w4 ju.o;(first | (have jv:ag (Bx w4 _ 223 (.int .i64 0) (.int .u64 0)):=(Bx.gw (by first | exact Bx.new _ _ _ _ | exact Bx.drw (Bx.new _ _ _ _) | exact ag.o (by assumption) | exact Bx.drw (ag.o (by assumption))) jQ);have VE:=jv.o.c0;have VF:=jv.o.c1;have VH:=jv.o.fz 0;have VJ:=jv.o.fz 1) | skip);clear jQ oB)
     | (go_at_call 182;refine (D1.o _).mono ?_;rintro ex w5 ⟨rfl,kw5,xZ⟩;have gw5:=xZ.gb.gw;have lU:ag (Gw wx w5):=(Gw.trans (by repeat (first | exact Gw.refl _ | exact ag.o (by assumption) | refine Gw.drew ?_ | refine Gw.alloc ?_ _ _)) gw5);obtain ⟨yw5,lw5⟩:=BF.o w5 lU.o;(first | (have jZ:ag (Bx w5 _ 223 (.int .i64 0) (.int .u64 0)):=(Bx.gw (by first | exact Bx.new _ _ _ _ | exact Bx.drw (Bx.new _ _ _ _) | exact ag.o (by assumption) | exact Bx.drw (ag.o (by assumption))) gw5);have aeL:=jZ.o.c0;have aeM:=jZ.o.c1;have aeN:=jZ.o.fz 0;have aeO:=jZ.o.fz 1) | skip);clear gw5 xZ))
    all_goals go_wp2_with fail
    all_goals go_meet
    all_goals
     case rel =>
      first
       | exact ⟨w5.heap.size,rfl,rfl,(show ag _ from Bx.new _ _ _ _),(show ag _ from lU.o.size),(show ag _ from lU.o.alloc _ _)⟩
       | exact ⟨w4.heap.size,rfl,rfl,(show ag _ from jZ.o.set _ _),(show ag _ from ju.o.size),(show ag _ from (lU.o.setCell ju.o.size _).setCell ju.o.size _)⟩
       | exact ⟨wx.heap.size,rfl,rfl,(show ag _ from jZ.o.set _ _),(show ag _ from Nat.le_refl _),(show ag _ from (lU.o.setCell (Nat.le_refl _) _).setCell (Nat.le_refl _) _)⟩
  case rest =>
   obtain ⟨wy,xW⟩:∃ wy,wy=wc:=⟨_,rfl⟩;subst xW;obtain ⟨q,rfl,rfl,XO,lq,gy⟩:=hcut;have GY:ag _:=G0.o.trans gy.o;have x0:=XO.o.c0;have x1:=XO.o.c1;have lt:=XO.o.lt;clear BF c1 l1 G0 gy lq D1 T1;by_cases hE:E=10
   ·subst hE
    have R:=fun w' g=>aJ.o w' g 0 false (fun _=>⟨rfl,rfl⟩) (fun q=>absurd (xY.o.2 (.inl rfl)) q)
    have RR:ag _:=R;clear R aJ xY;go_wp2_with fail;go_quiet (fail)
    all_goals go_wp2_with fail
    all_goals exact bodyPost_ret (v:=.tuple #[.int .i64 0,.bool false]) (by simp [results,results159,go_sem]) rfl (RR.o _ (by first | exact GY.o.drewN _ | exact GY.o.drew))
   ·have eE:E=0:=by omega
    subst eE;have BX:ag (∀ w',Gw wy w'->(w'.cell? ⟨q,0,none⟩=some (.int .i64 (aq Q))/\w'.cell? ⟨q,1,none⟩=some (.int .u64 (ar Q))/\q<w'.heap.size)):=fun w' g=>⟨(XO.o.gw g).c0,(XO.o.gw g).c1,(XO.o.gw g).lt⟩
    have Bt:ag (iy a b d↔2305843009213693952<Q):=⟨fun s=>(xY.o.1 s).elim (fun t=>absurd t (by decide)) id,fun s=>xY.o.2 (.inr s)⟩
    clear xY hE EE;by_cases hQ:2305843009213693952<Q
    ·have cm:bI Q 2305843009213693952=1:=by unfold bI;rw [if_neg (by omega),if_neg (by omega)]
     have RR:ag (∀ w',Gw w w'->_):=fun w' g=>aJ.o w' g 0 false (fun _=>⟨rfl,rfl⟩) (fun q=>absurd (Bt.o.2 hQ) q)
     rw [cm] at CM;clear aJ Bt cm;go_wp2_with fail;go_region_with (first
      | (go_at_call 185;refine (OF.o _).mono ?_;rintro ex v1 ⟨rfl,x6⟩;have x7:=x6.gb.gw;have Jy:ag (Gw wy v1):=(Gw.trans (by repeat (first | exact Gw.refl _ | exact ag.o (by assumption) | refine Gw.drew ?_)) x7);obtain ⟨y1,y2,y3⟩:=BX.o v1 Jy.o;clear x7 x6)
      | (go_at_call 184;refine (CM.o _).mono ?_;rintro ex v2 ⟨rfl,x8⟩;have x9:=x8.gb.gw;have yd:ag (Gw wy v2):=(Gw.trans (by repeat (first | exact Gw.refl _ | exact ag.o (by assumption) | refine Gw.drew ?_)) x9);obtain ⟨y4,y5,y6⟩:=BX.o v2 yd.o;clear x9 x8))
     all_goals go_wp2_with fail
     all_goals exact bodyPost_ret (v:=.tuple #[.int .i64 0,.bool false]) (by simp [results,results159,go_sem]) rfl (RR.o _ (GY.o.trans yd.o))
    ·have cm:bI Q 2305843009213693952<=0:=by unfold bI;split<;>(try split)<;>omega
     have RR:ag (∀ w',Gw w w'->_):=fun w' g=>aJ.o w' g Q true (fun q=>absurd (Bt.o.1 q) hQ) (fun _=>⟨rfl,rfl⟩)
     obtain ⟨k,hk⟩:∃ k,bI Q 2305843009213693952=k:=⟨_,rfl⟩;rw [hk] at CM cm;have t3:decide (0<k)=false:=by simpa using cm
     have lq:ag (ar Q=Q):=by show _=_;unfold ar;omega
     have wq:IntKind.i64.wrap Q=Q:=by rw [IntKind.wrap_i64];omega
     clear aJ Bt hk;go_wp2_with fail;go_region_with (first
      | (go_at_call 185;refine (OF.o _).mono ?_;rintro ex v1 ⟨rfl,x6⟩;have x7:=x6.gb.gw;have Jy:ag (Gw wy v1):=(Gw.trans (by repeat (first | exact Gw.refl _ | exact ag.o (by assumption) | refine Gw.drew ?_)) x7);obtain ⟨y1,y2,y3⟩:=BX.o v1 Jy.o;clear x7 x6)
      | (go_at_call 184;refine (CM.o _).mono ?_;rintro ex v2 ⟨rfl,x8⟩;have x9:=x8.gb.gw;have yd:ag (Gw wy v2):=(Gw.trans (by repeat (first | exact Gw.refl _ | exact ag.o (by assumption) | refine Gw.drew ?_)) x9);obtain ⟨y4,y5,y6⟩:=BX.o v2 yd.o;clear x9 x8))
     all_goals (rw [lq.o] at y5;go_wp2_with fail)
     all_goals exact bodyPost_ret (v:=.tuple #[.int .i64 Q,.bool true]) (by simp [results,results159,go_sem]) rfl (RR.o _ (GY.o.trans yd.o))
end Go.Proofs.YtklkpldicbkjeaaGreat
namespace Go.Proofs.YtklkpldicbkjeaaGreat
open Go.RowKit
def VK:Prop:=∀ (eps:Int) (ao:Option Addr) (n cp:Nat) (f:Nat->Int),-9223372036854775808<=eps->eps<9223372036854775808->n<=2000000->∀ w:World,KS w ao n f ->
 Calls prog 118 #[.slice ao n cp,.int .i64 eps] w fun ex w'=>(∃ a b c err:Int,ex=.returned (.tuple #[.agg #[.int .u64 a,.int .u64 b,.int .i64 c],.int .i64 err])/\dP eps f n a b c err/\(0<=a/\a<18446744073709551616)/\(0<=b/\b<18446744073709551616)/\(-9223372036854775808<=c/\c<9223372036854775808))/\Gw w w'
attribute [local go_sem] fZ
theorem aeP {a b:Nat} (a1:a<18446744073709551616) (b1:b<18446744073709551616) (b0:0<b):∃ s,Nr (a*Un) b s/\∀ w,Calls prog 119 #[.int .u64 a,.int .u64 b] w fun e w'=>e=.returned (.tuple #[.float .f64 s,.int .i64 0])/\∃ n,w'=w.drewN n:=by
 by_cases z:a=0
 ·subst z
  exact ⟨0,by rw [Nat.zero_mul];exact Nr.zero b b0,fun w=>(aeo b b0 w).mono fun e w' h=>⟨h.1,0,h.2⟩⟩
 ·obtain ⟨s,hs,-,-,h⟩:=aen a b a1 b1 (by omega) b0
  exact ⟨s,hs,h⟩
theorem aeQ (O5:VK) (eps fr:Int) (ao:Option Addr) (n cp:Nat) (f:Nat->Int) (p0:-9223372036854775808<=eps) (p1:eps<9223372036854775808) (q0:-9223372036854775808<=fr) (q1:fr<9223372036854775808) (hn:n<=2000000) (w:World) (K:KS w ao n f) :
  Calls prog 101 #[.slice ao n cp,.int .i64 eps,.int .i64 fr] w fun ex w'=>(∃ (k:Int) (s ic:Nat) (F T er:Int),ex=.returned (.tuple #[eF k s ic F T,.int .i64 er])/\fF eps fr f n k s ic F T er)/\Gw w w':=by
 have G0:ag (Gw w (w.alloc (.cells #[.int .u64 0,.float .f64 0,.float .f64 0,.int .i64 0,.int .i64 0] 129))):=(Gw.refl w).alloc _ _;have Z0:ag (Sb (w.alloc (.cells #[.int .u64 0,.float .f64 0,.float .f64 0,.int .i64 0,.int .i64 0] 129)) w.heap.size 0 0 0 0 0):=heap_alloc_new w _;have O:ag _:=fun W (g:Gw w W)=>O5 eps ao n cp f p0 p1 hn W (K.gw g)
 have K':ag _:=K;clear K O5;go_enter func101,ntmps101;go_wp2_with fail;refine (O.o _ G0.o).mono ?_;rintro ex w1 ⟨⟨a,b,c,er,rfl,R0,ab,bb,cb⟩,g1⟩;have G:ag _:=G0.o.trans g1;have Z:ag (Sb w1 w.heap.size 0 0 0 0 0):=Z0.o.gw g1;clear G0 Z0 g1 O;by_cases h:er=0
 ·subst h
  obtain ⟨z0,z1,z2,z3,z4⟩:=Z.o.cells;have zl:=Z.o.lt;have y0:=Z.o.fz 0;have y1:=Z.o.fz 1;have y2:=Z.o.fz 2;have y3:=Z.o.fz 3;have y4:=Z.o.fz 4;by_cases h1:fr<0
  ·have t2:decide (fr<0)=true:=by simpa using h1
   have R:ag (fF eps fr f n 0 0 0 0 0 1):=.inr (.inl ⟨a,b,c,R0,fun q=>by omega,rfl,rfl,rfl,rfl,rfl,rfl⟩)
   clear R0 h1;go_wp2_with fail;refine bodyPost_ret (v:=.tuple #[eF 0 0 0 0 0,.int .i64 1]) (by simp [results,results101,go_sem,zl,z0,z1,z2,z3,z4]) rfl ⟨⟨0,0,0,0,0,1,rfl,R.o⟩,?_⟩
   refine Gw.alloc (Gw.setCell (Gw.setCell (Gw.setCell (Gw.setCell (Gw.setCell G.o ?_ _) ?_ _) ?_ _) ?_ _) ?_ _) _ _<;>exact Nat.le_refl _
  ·have t2:decide (fr<0)=false:=by simpa using h1
   have wz:IntKind.i64.wrap (4294967296-(n:Int))=4294967296-(n:Int):=by rw [IntKind.wrap_i64];omega
   by_cases h2:4294967296-(n:Int)<fr
   ·have t3:decide (4294967296-(n:Int)<fr)=true:=by simpa using h2
    have R:ag (fF eps fr f n 0 0 0 0 0 1):=.inr (.inl ⟨a,b,c,R0,fun q=>by omega,rfl,rfl,rfl,rfl,rfl,rfl⟩)
    clear R0 h1 h2;go_wp2_with fail;refine bodyPost_ret (v:=.tuple #[eF 0 0 0 0 0,.int .i64 1]) (by simp [results,results101,go_sem,zl,z0,z1,z2,z3,z4]) rfl ⟨⟨0,0,0,0,0,1,rfl,R.o⟩,?_⟩
    refine Gw.alloc (Gw.setCell (Gw.setCell (Gw.setCell (Gw.setCell (Gw.setCell G.o ?_ _) ?_ _) ?_ _) ?_ _) ?_ _) _ _<;>exact Nat.le_refl _
   ·have t3:decide (4294967296-(n:Int)<fr)=false:=by simpa using h2
    obtain ⟨A,rfl⟩:∃ A:Nat,a=A:=⟨a.toNat,by omega⟩
    obtain ⟨B,rfl⟩:∃ B:Nat,b=B:=⟨b.toNat,by omega⟩
    have T:Told eps f n A B c:=by
     rcases R0.cases with ⟨q,_⟩ | ⟨_,q⟩
     ·exact absurd rfl q
     ·exact q
    have B1:=T.low.b1;have n0:=T.n0;have cc:=(T.stays (by omega)).2
    have ee:=T.e1;have eh:=T.e2;clear T;obtain ⟨s,hs,NE⟩:=aeP (a:=A) (b:=B) (by omega) (by omega) (by omega)
    have CA:ag _:=NE;obtain ⟨bk,off,rfl,hb,hc⟩:=(K'.o.gw G.o).cells n0;have c0:w1.cell? ⟨bk,off,none⟩=some (.int .u64 (f 0)):=hc 0 n0;obtain ⟨f0,hf⟩:∃ f0,f 0=f0:=⟨_,rfl⟩;rw [hf] at c0;have wy:IntKind.i64.wrap (fr+c)=fr+c:=by rw [IntKind.wrap_i64];omega
    have wx:IntKind.i64.wrap (fr+(n:Int))=fr+(n:Int):=by rw [IntKind.wrap_i64];omega
    have R:ag (fF eps fr f n f0 s (floatOfInt .f64 (fr+c)) fr (fr+n) 0):=.inr (.inr ⟨A,B,c,R0,⟨by omega,by omega⟩,⟨by omega,by omega⟩,by rw [Int.toNat_natCast,Int.toNat_natCast];exact hs,hf.symm,rfl,rfl,rfl,rfl⟩)
    have bz:bk≠w.heap.size:=by
     intro q;obtain ⟨uQ,sU,e,cY,-⟩:=K'.o.cells n0;cases e;omega
    clear R0 hs hf hc NE h1 h2;go_wp2_with fail;refine (CA.o _).mono ?_;rintro ex w2 ⟨rfl,nq,rfl⟩;go_wp2_with fail;go_region
    all_goals go_wp2_with fail
    all_goals refine bodyPost_ret (v:=.tuple #[eF f0 s (floatOfInt .f64 (fr+c)) fr (fr+n),.int .i64 0]) (by simp [results,results101,go_sem,zl,z0,z1,z2,z3,z4]) rfl ⟨⟨f0,s,floatOfInt .f64 (fr+c),fr,fr+n,0,rfl,R.o⟩,?_⟩
    all_goals (repeat (first | exact G.o | refine Gw.drew ?_ | refine Gw.drewN ?_ _ | refine Gw.alloc ?_ _ _ | refine Gw.setCell ?_ (Nat.le_refl _) _))
 ·have t1:(er != 0)=true:=by simpa using h
  have R:ag (fF eps fr f n 0 0 0 0 0 er):=.inl ⟨a,b,c,R0,h,rfl,rfl,rfl,rfl,rfl⟩;clear R0 h;obtain ⟨z0,z1,z2,z3,z4⟩:=Z.o.cells;have zl:=Z.o.lt;have y0:=Z.o.fz 0;have y1:=Z.o.fz 1;have y2:=Z.o.fz 2;have y3:=Z.o.fz 3;have y4:=Z.o.fz 4;go_wp2_with fail;refine bodyPost_ret (v:=.tuple #[eF 0 0 0 0 0,.int .i64 er]) (by simp [results,results101,go_sem,zl,z0,z1,z2,z3,z4]) rfl ⟨⟨0,0,0,0,0,er,rfl,R.o⟩,?_⟩
  refine Gw.alloc (Gw.setCell (Gw.setCell (Gw.setCell (Gw.setCell (Gw.setCell G.o ?_ _) ?_ _) ?_ _) ?_ _) ?_ _) _ _<;>exact Nat.le_refl _
end Go.Proofs.YtklkpldicbkjeaaGreat
namespace Go.Proofs.YtklkpldicbkjeaaGreat
open Go.RowKit
theorem aeR:VK:=fun eps ao n cp f p0 p1 hn w h=>aeH aeK Vc eps ao n cp f p0 p1 hn w h
theorem Jz:gh where
 check k sl ic fr te h w:=Js k sl ic fr te h.s1 h.i1 w
 guess k sl ic fr te q h q0 q1 w:=aes k sl ic fr te q h.k0 h.k1 h.s1 h.i1 q0 q1 w
 off k sl ic fr te ao n cp f h hn cZ w K:=aew k sl ic fr te h.k0 h.k1 h.s1 h.i1 h.f0 h.f1 h.t0 h.t1 ao n cp f (by omega) w K
 of eps fr ao n cp f p0 p1 q0 q1 hn cZ w K:=aeQ aeR eps fr ao n cp f p0 p1 q0 q1 hn w K
end Go.Proofs.YtklkpldicbkjeaaGreat
