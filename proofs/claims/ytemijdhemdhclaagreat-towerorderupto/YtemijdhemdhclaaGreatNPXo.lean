/- Package model: Of, over what package line tells. -/
import Derived.Test.YtemijdhemdhclaaGreatNCFit
import Derived.Test.YtemijdhemdhclaaGreatNXNear
import Derived.Test.YtemijdhemdhclaaGreatNPXm
import Derived.Test.YtemijdhemdhclaaGreatNXOf
import Derived.Test.YtemijdhemdhclaaGreatNXClimb
set_option linter.unusedVariables false
set_option maxHeartbeats 8000000
set_option maxRecDepth 10000
open Go.Proofs.Tryz
namespace Go.Proofs.YtemijdhemdhclaaGreat
open Go.RowKit
def LineOfC:Prop:=∀ (eps:Int) (ao:Option Addr) (n cp:Nat) (f:Nat->Int),-9223372036854775808<=eps->eps<9223372036854775808->n<=2000000->∀ w:World,KS w ao n f ->
 Calls prog 130 #[.slice ao n cp,.int .i64 eps] w fun ex w'=>(∃ a b c err:Int,ex=.returned (.tuple #[.agg #[.int .u64 a,.int .u64 b,.int .i64 c],.int .i64 err])/\OfR eps f n a b c err/\(0<=a/\a<18446744073709551616)/\(0<=b/\b<18446744073709551616)/\(-9223372036854775808<=c/\c<9223372036854775808))/\Gw w w'
attribute [local go_sem] run_store_float
theorem xnear_ex {a b:Nat} (a1:a<18446744073709551616) (b1:b<18446744073709551616) (b0:0<b):∃ s,Nr (a*Un) b s/\∀ w,Calls prog 131 #[.int .u64 a,.int .u64 b] w fun e w'=>e=.returned (.tuple #[.float .f64 s,.int .i64 0])/\∃ n,w'=w.drewN n:=by
 by_cases z:a=0
 ·subst z
  exact ⟨0,by rw [Nat.zero_mul];exact Nr.zero b b0,fun w=>(near_zero_num b b0 w).mono fun e w' h=>⟨h.1,0,h.2⟩⟩
 ·obtain ⟨s,hs,-,-,h⟩:=near_ex a b a1 b1 (by omega) b0
  exact ⟨s,hs,h⟩
theorem xof7_any (O5:LineOfC) (eps fr:Int) (ao:Option Addr) (n cp:Nat) (f:Nat->Int) (p0:-9223372036854775808<=eps) (p1:eps<9223372036854775808) (q0:-9223372036854775808<=fr) (q1:fr<9223372036854775808) (hn:n<=2000000) (w:World) (K:KS w ao n f) :
  Calls prog 118 #[.slice ao n cp,.int .i64 eps,.int .i64 fr] w fun ex w'=>(∃ (k:Int) (s ic:Nat) (F T er:Int),ex=.returned (.tuple #[segV k s ic F T,.int .i64 er])/\SegR eps fr f n k s ic F T er)/\Gw w w':=by
 have G0:Aside (Gw w (w.alloc (.cells #[.int .u64 0,.float .f64 0,.float .f64 0,.int .i64 0,.int .i64 0] 170))):=(Gw.refl w).alloc _ _;have Z0:Aside (Sb (w.alloc (.cells #[.int .u64 0,.float .f64 0,.float .f64 0,.int .i64 0,.int .i64 0] 170)) w.heap.size 0 0 0 0 0):=heap_alloc_new w _;have O:Hid _:=fun W (g:Gw w W)=>O5 eps ao n cp f p0 p1 hn W (K.gw g)
 have K':Hid _:=K;clear K O5;go_enter func118,ntmps118;go_wp2_with fail;refine (O.out _ G0.out).mono ?_;rintro ex w1 ⟨⟨a,b,c,er,rfl,R0,ab,bb,cb⟩,g1⟩;have G:Aside _:=G0.out.trans g1;have Z:Aside (Sb w1 w.heap.size 0 0 0 0 0):=Z0.out.gw g1;clear G0 Z0 g1 O;by_cases h:er=0
 ·subst h
  obtain ⟨z0,z1,z2,z3,z4⟩:=Z.out.cells;have zl:=Z.out.lt;have y0:=Z.out.fz 0;have y1:=Z.out.fz 1;have y2:=Z.out.fz 2;have y3:=Z.out.fz 3;have y4:=Z.out.fz 4;by_cases h1:fr<0
  ·have t2:decide (fr<0)=true:=by simpa using h1
   have R:Aside (SegR eps fr f n 0 0 0 0 0 1):=.inr (.inl ⟨a,b,c,R0,fun q=>by omega,rfl,rfl,rfl,rfl,rfl,rfl⟩)
   clear R0 h1;go_wp2_with fail;refine bodyPost_ret (v:=.tuple #[segV 0 0 0 0 0,.int .i64 1]) (by simp [results,results118,go_sem,zl,z0,z1,z2,z3,z4]) rfl ⟨⟨0,0,0,0,0,1,rfl,R.out⟩,?_⟩
   refine Gw.alloc (Gw.setCell (Gw.setCell (Gw.setCell (Gw.setCell (Gw.setCell G.out ?_ _) ?_ _) ?_ _) ?_ _) ?_ _) _ _<;>exact Nat.le_refl _
  ·have t2:decide (fr<0)=false:=by simpa using h1
   have wz:IntKind.i64.wrap (4294967296-(n:Int))=4294967296-(n:Int):=by rw [IntKind.wrap_i64];omega
   by_cases h2:4294967296-(n:Int)<fr
   ·have t3:decide (4294967296-(n:Int)<fr)=true:=by simpa using h2
    have R:Aside (SegR eps fr f n 0 0 0 0 0 1):=.inr (.inl ⟨a,b,c,R0,fun q=>by omega,rfl,rfl,rfl,rfl,rfl,rfl⟩)
    clear R0 h1 h2;go_wp2_with fail;refine bodyPost_ret (v:=.tuple #[segV 0 0 0 0 0,.int .i64 1]) (by simp [results,results118,go_sem,zl,z0,z1,z2,z3,z4]) rfl ⟨⟨0,0,0,0,0,1,rfl,R.out⟩,?_⟩
    refine Gw.alloc (Gw.setCell (Gw.setCell (Gw.setCell (Gw.setCell (Gw.setCell G.out ?_ _) ?_ _) ?_ _) ?_ _) ?_ _) _ _<;>exact Nat.le_refl _
   ·have t3:decide (4294967296-(n:Int)<fr)=false:=by simpa using h2
    obtain ⟨A,rfl⟩:∃ A:Nat,a=A:=⟨a.toNat,by omega⟩
    obtain ⟨B,rfl⟩:∃ B:Nat,b=B:=⟨b.toNat,by omega⟩
    have T:Told eps f n A B c:=by
     rcases R0.cases with ⟨q,_⟩ | ⟨_,q⟩
     ·exact absurd rfl q
     ·exact q
    have B1:=T.low.b1;have n0:=T.n0;have cc:=(T.stays (by omega)).2
    have ee:=T.e1;have eh:=T.e2;clear T;obtain ⟨s,hs,NE⟩:=xnear_ex (a:=A) (b:=B) (by omega) (by omega) (by omega)
    have NE':Hid _:=NE;obtain ⟨bk,off,rfl,hb,hc⟩:=(K'.out.gw G.out).cells n0;have c0:w1.cell? ⟨bk,off,none⟩=some (.int .u64 (f 0)):=hc 0 n0;obtain ⟨f0,hf⟩:∃ f0,f 0=f0:=⟨_,rfl⟩;rw [hf] at c0;have wy:IntKind.i64.wrap (fr+c)=fr+c:=by rw [IntKind.wrap_i64];omega
    have wx:IntKind.i64.wrap (fr+(n:Int))=fr+(n:Int):=by rw [IntKind.wrap_i64];omega
    have R:Aside (SegR eps fr f n f0 s (floatOfInt .f64 (fr+c)) fr (fr+n) 0):=.inr (.inr ⟨A,B,c,R0,⟨by omega,by omega⟩,⟨by omega,by omega⟩,by rw [Int.toNat_natCast,Int.toNat_natCast];exact hs,hf.symm,rfl,rfl,rfl,rfl⟩)
    have bz:bk≠w.heap.size:=by
     intro q;obtain ⟨bk',off',e,hb',-⟩:=K'.out.cells n0;cases e;omega
    clear R0 hs hf hc NE h1 h2;go_wp2_with fail;refine (NE'.out _).mono ?_;rintro ex w2 ⟨rfl,nq,rfl⟩;go_wp2_with fail;go_region
    all_goals go_wp2_with fail
    all_goals refine bodyPost_ret (v:=.tuple #[segV f0 s (floatOfInt .f64 (fr+c)) fr (fr+n),.int .i64 0]) (by simp [results,results118,go_sem,zl,z0,z1,z2,z3,z4]) rfl ⟨⟨f0,s,floatOfInt .f64 (fr+c),fr,fr+n,0,rfl,R.out⟩,?_⟩
    all_goals (repeat (first | exact G.out | refine Gw.drew ?_ | refine Gw.drewN ?_ _ | refine Gw.alloc ?_ _ _ | refine Gw.setCell ?_ (Nat.le_refl _) _))
 ·have t1:(er != 0)=true:=by simpa using h
  have R:Aside (SegR eps fr f n 0 0 0 0 0 er):=.inl ⟨a,b,c,R0,h,rfl,rfl,rfl,rfl,rfl⟩;clear R0 h;obtain ⟨z0,z1,z2,z3,z4⟩:=Z.out.cells;have zl:=Z.out.lt;have y0:=Z.out.fz 0;have y1:=Z.out.fz 1;have y2:=Z.out.fz 2;have y3:=Z.out.fz 3;have y4:=Z.out.fz 4;go_wp2_with fail;refine bodyPost_ret (v:=.tuple #[segV 0 0 0 0 0,.int .i64 er]) (by simp [results,results118,go_sem,zl,z0,z1,z2,z3,z4]) rfl ⟨⟨0,0,0,0,0,er,rfl,R.out⟩,?_⟩
  refine Gw.alloc (Gw.setCell (Gw.setCell (Gw.setCell (Gw.setCell (Gw.setCell G.out ?_ _) ?_ _) ?_ _) ?_ _) ?_ _) _ _<;>exact Nat.le_refl _
end Go.Proofs.YtemijdhemdhclaaGreat
namespace Go.Proofs.YtemijdhemdhclaaGreat
open Go.RowKit
theorem lineof:LineOfC:=fun eps ao n cp f p0 p1 hn w h=>xof_any climb_any hullc eps ao n cp f p0 p1 hn w h
theorem modelc:ModelC where
 check k sl ic fr te h w:=xcheck_any k sl ic fr te h.s1 h.i1 w
 guess k sl ic fr te q h q0 q1 w:=xguess_any k sl ic fr te q h.k0 h.k1 h.s1 h.i1 q0 q1 w
 off k sl ic fr te ao n cp f h hn hcp w K:=xoff_any k sl ic fr te h.k0 h.k1 h.s1 h.i1 h.f0 h.f1 h.t0 h.t1 ao n cp f (by omega) w K
 of eps fr ao n cp f p0 p1 q0 q1 hn hcp w K:=xof7_any lineof eps fr ao n cp f p0 p1 q0 q1 hn w K
end Go.Proofs.YtemijdhemdhclaaGreat
