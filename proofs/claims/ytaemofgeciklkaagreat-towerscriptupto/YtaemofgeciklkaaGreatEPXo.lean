import Derived.Test.YtaemofgeciklkaaGreatEPCl
import Derived.Test.YtaemofgeciklkaaGreatEXNear
import Derived.Test.YtaemofgeciklkaaGreatEXOf
import Derived.Test.YtaemofgeciklkaaGreatEXClimb
set_option linter.unusedVariables false
set_option maxHeartbeats 8000000
set_option maxRecDepth 10000
open Go.Proofs.Tryz
namespace Go.Proofs.YtaemofgeciklkaaGreat
open Go.RowKit
def XR:Prop:=∀ (eps:Int) (ao:Option Addr) (n cp:Nat) (f:Nat->Int),-9223372036854775808<=eps->eps<9223372036854775808->n<=2000000->∀ w:World,KS w ao n f ->
 Calls prog 176 #[.slice ao n cp,By eps] w fun ex w'=>(∃ a b c err:Int,ex=χ (.tuple #[.agg #[BY a,BY b,By c],By err])/\eG eps f n a b c err/\(0<=a/\a<18446744073709551616)/\(0<=b/\b<18446744073709551616)/\(-9223372036854775808<=c/\c<9223372036854775808))/\Gw w w'
attribute [local go_sem] iV
theorem ahf {a b:Nat} (a1:a<18446744073709551616) (b1:b<18446744073709551616) (b0:0<b):∃ s,Nr (a*Un) b s/\∀ w,Calls prog 177 #[BY a,BY b] w fun e w'=>e=π #[.float .f64 s,By 0]/\∃ n,w'=w.drewN n:=by
 by_cases z:a=0
 ·subst z
  exact ⟨0,by rw [qaR];exact Nr.zero b b0,fun w=>(agZ b b0 w).mono fun e w' h=>⟨h.1,0,h.2⟩⟩
 ·obtain ⟨s,hs,-,-,h⟩:=agY a b a1 b1 ω b0
  exact ⟨s,hs,h⟩
theorem ahg (O5:XR) (eps fr:Int) (ao:Option Addr) (n cp:Nat) (f:Nat->Int) (p0:-9223372036854775808<=eps) (p1:eps<9223372036854775808) (q0:-9223372036854775808<=fr) (q1:fr<9223372036854775808) (hn:n<=2000000) (w:World) (K:KS w ao n f) :
  Calls prog 158 #[.slice ao n cp,By eps,By fr] w fun ex w'=>(∃ (k:Int) (s ic:Nat) (F T er:Int),ex=π #[fA k s ic F T,By er]/\gQ eps fr f n k s ic F T er)/\Gw w w':=by
 have G0:ag (Gw w (w.alloc (.cells #[BY 0,.float .f64 0,.float .f64 0,By 0,By 0] 174))):=(Gw.refl w).alloc _ _;have Z0:ag (Sb (w.alloc (.cells #[BY 0,.float .f64 0,.float .f64 0,By 0,By 0] 174)) w.heap.size 0 0 0 0 0):=Ω w _;have O:ag _:=fun W (g:Gw w W)=>O5 eps ao n cp f p0 p1 hn W (K.gw g)
 have K':ag _:=K;clear K O5;go_enter func158,ntmps158;go_wp2_with fail;refine (O.o _ G0.o).mono ?_;rintro ex w1 ⟨⟨a,b,c,er,rfl,R0,ab,bb,cb⟩,g1⟩;have G:ag _:=G0.o.trans g1;have Z:ag (Sb w1 w.heap.size 0 0 0 0 0):=Z0.o.gw g1;clear G0 Z0 g1 O;by_cases h:er=0
 ·subst h
  obtain ⟨z0,z1,z2,z3,z4⟩:=Z.o.cells;have zl:=Z.o.lt;have y0:=Z.o.fz 0;have y1:=Z.o.fz 1;have y2:=Z.o.fz 2;have y3:=Z.o.fz 3;have y4:=Z.o.fz 4;by_cases h1:fr<0
  ·have t2:decide (fr<0)=true:=(by simpa using h1);have R:ag (gQ eps fr f n 0 0 0 0 0 1):=.inr (.inl ⟨a,b,c,R0,fun q=>ω,rfl,rfl,rfl,rfl,rfl,rfl⟩)
   clear R0 h1;go_wp2_with fail;refine bodyPost_ret (v:=.tuple #[fA 0 0 0 0 0,By 1]) (by simp [results,results158,go_sem,zl,z0,z1,z2,z3,z4]) rfl ⟨⟨0,0,0,0,0,1,rfl,R.o⟩,?_⟩
   refine Gw.alloc (Gw.setCell (Gw.setCell (Gw.setCell (Gw.setCell (Gw.setCell G.o ?_ _) ?_ _) ?_ _) ?_ _) ?_ _) _ _<;>exact Yk _
  ·have t2:decide (fr<0)=false:=(by simpa using h1);have wz:IntKind.i64.wrap (4294967296-(n:Int))=4294967296-(n:Int):=(by rw [Δ];omega);by_cases h2:4294967296-(n:Int)<fr
   ·have t3:decide (4294967296-(n:Int)<fr)=true:=(by simpa using h2);have R:ag (gQ eps fr f n 0 0 0 0 0 1):=.inr (.inl ⟨a,b,c,R0,fun q=>ω,rfl,rfl,rfl,rfl,rfl,rfl⟩)
    clear R0 h1 h2;go_wp2_with fail;refine bodyPost_ret (v:=.tuple #[fA 0 0 0 0 0,By 1]) (by simp [results,results158,go_sem,zl,z0,z1,z2,z3,z4]) rfl ⟨⟨0,0,0,0,0,1,rfl,R.o⟩,?_⟩
    refine Gw.alloc (Gw.setCell (Gw.setCell (Gw.setCell (Gw.setCell (Gw.setCell G.o ?_ _) ?_ _) ?_ _) ?_ _) ?_ _) _ _<;>exact Yk _
   ·have t3:decide (4294967296-(n:Int)<fr)=false:=(by simpa using h2);obtain ⟨A,rfl⟩:∃ A:Nat,a=A:=⟨a.toNat,ω⟩;obtain ⟨B,rfl⟩:∃ B:Nat,b=B:=⟨b.toNat,ω⟩;have T:Told eps f n A B c:=by
     rcases R0.cases with ⟨q,_⟩ | ⟨_,q⟩
     ·exact absurd rfl q
     ·exact q
    have B1:=T.low.b1;have n0:=T.n0;have cc:=(T.stays ω).2;have ee:=T.e1;have eh:=T.e2;clear T;obtain ⟨s,hs,NE⟩:=ahf (a:=A) (b:=B) ω ω ω;have Gj:ag _:=NE;obtain ⟨bk,off,rfl,hb,hc⟩:=(K'.o.gw G.o).cells n0;have c0:w1.cell? (φ bk off)=some (BY (f 0)):=hc 0 n0;obtain ⟨f0,hf⟩:=qbr (f 0);rw [hf] at c0;have wy:IntKind.i64.wrap (fr+c)=fr+c:=(by rw [Δ];omega);have wx:IntKind.i64.wrap (fr+(n:Int))=fr+(n:Int):=(by rw [Δ];omega);have R:ag (gQ eps fr f n f0 s (floatOfInt .f64 (fr+c)) fr (fr+n) 0):=.inr (.inr ⟨A,B,c,R0,⟨ω,ω⟩,⟨ω,ω⟩,by rw [Int.toNat_natCast,Int.toNat_natCast];exact hs,hf.symm,rfl,rfl,rfl,rfl⟩)
    have bz:bk≠w.heap.size:=(by intro q;obtain ⟨xX,vx,e,eQ,-⟩:=K'.o.cells n0;cases e;omega);clear R0 hs hf hc NE h1 h2;go_wp2_with fail;refine (Gj.o _).mono ?_;rintro ex w2 ⟨rfl,nq,rfl⟩;go_wp2_with fail;go_region
    all_goals go_wp2_with fail
    all_goals refine bodyPost_ret (v:=.tuple #[fA f0 s (floatOfInt .f64 (fr+c)) fr (fr+n),By 0]) (by simp [results,results158,go_sem,zl,z0,z1,z2,z3,z4]) rfl ⟨⟨f0,s,floatOfInt .f64 (fr+c),fr,fr+n,0,rfl,R.o⟩,?_⟩
    all_goals (repeat (first | exact G.o | refine Gw.drew ?_ | refine Gw.drewN ?_ _ | refine Gw.alloc ?_ _ _ | refine Gw.setCell ?_ (Yk _) _))
 ·have t1:(er != 0)=true:=by simpa using h
  have R:ag (gQ eps fr f n 0 0 0 0 0 er):=.inl ⟨a,b,c,R0,h,rfl,rfl,rfl,rfl,rfl⟩;clear R0 h;obtain ⟨z0,z1,z2,z3,z4⟩:=Z.o.cells;have zl:=Z.o.lt;have y0:=Z.o.fz 0;have y1:=Z.o.fz 1;have y2:=Z.o.fz 2;have y3:=Z.o.fz 3;have y4:=Z.o.fz 4;go_wp2_with fail;refine bodyPost_ret (v:=.tuple #[fA 0 0 0 0 0,By er]) (by simp [results,results158,go_sem,zl,z0,z1,z2,z3,z4]) rfl ⟨⟨0,0,0,0,0,er,rfl,R.o⟩,?_⟩
  refine Gw.alloc (Gw.setCell (Gw.setCell (Gw.setCell (Gw.setCell (Gw.setCell G.o ?_ _) ?_ _) ?_ _) ?_ _) ?_ _) _ _<;>exact Yk _
end Go.Proofs.YtaemofgeciklkaaGreat
namespace Go.Proofs.YtaemofgeciklkaaGreat
open Go.RowKit
theorem ahh:XR:=fun eps ao n cp f p0 p1 hn w h=>ag8 aha Xm eps ao n cp f p0 p1 hn w h
theorem L9:iD where
 check k sl ic fr te h w:=Gf k sl ic fr te h.s1 h.i1 w
 guess k sl ic fr te q h q0 q1 w:=abb k sl ic fr te q h.k0 h.k1 h.s1 h.i1 q0 q1 w
 off k sl ic fr te ao n cp f h hn dA w K:=abf k sl ic fr te h.k0 h.k1 h.s1 h.i1 h.f0 h.f1 h.t0 h.t1 ao n cp f ω w K
 of eps fr ao n cp f p0 p1 q0 q1 hn dA w K:=ahg ahh eps fr ao n cp f p0 p1 q0 q1 hn w K
