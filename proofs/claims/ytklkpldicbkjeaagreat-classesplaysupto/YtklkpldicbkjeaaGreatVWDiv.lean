/- What every walk here keeps: old memory as it was; the shelf beside it. Plain arithmetic: a quotient of two words by one, digit by digit: no Go in it. math/bits.Div64 gives the quotient and the rest of a number of two words by one word, where the quotient is one word. wide.Div gives the quotient and the rest, of every number from 0 on; wide.Of. -/
import Derived.Deep.DrawnRows
import Derived.Lib.BitFns
import Derived.Shelf.Spec.BitsCarry
import Derived.Test.YtklkpldicbkjeaaGreatVPFg
import Derived.Test.YtklkpldicbkjeaaGreatVPDg
import Derived.Test.YtklkpldicbkjeaaGreatVShelf
set_option linter.unusedVariables false
set_option maxHeartbeats 2000000
open Go.Proofs.Tryz
namespace Go.Proofs.YtklkpldicbkjeaaGreat
open Go.RowKit
theorem Jd {a b c:Int} (h:a*c<b*c) (hc:0<c):a<b:=Int.lt_of_mul_lt_mul_right h (by omega)
theorem Ve (U L1 Y Y1 Y0 a b:Int) (hY:Y=Y1*4294967296+Y0) (cO:a*Y1+b=U) :
  a*Y-(U*4294967296+L1)=a*Y0-(4294967296*b+L1):=by
 subst hY cO;rw [Int.mul_add,Int.add_mul,<-Int.mul_assoc];omega
theorem Je (U L1 Y Q:Int) (hY:0<Y) (hU:U<Y) (hL:L1<4294967296) (hQ:Q*Y<=U*4294967296+L1):Q<4294967296:=by
 refine Jd (c:=Y) ?_ hY;omega
theorem Jf (U L1 Y Y1 Y0 a b Q:Int) (hY:Y=Y1*4294967296+Y0) (eX:0<Y) (cO:a*Y1+b=U) (hU:U<Y) (hL:L1<4294967296) (hQ:Q*Y<=U*4294967296+L1)
  (hc:4294967296<=a\/4294967296*b+L1<a*Y0):Q<=a-1:=by
 rcases hc with hc | hc
 ·have:=Je U L1 Y Q eX hU hL hQ;omega
 ·have h:=Ve U L1 Y Y1 Y0 a b hY cO
  have:Q<a:=Jd (c:=Y) (by omega) eX
  omega
theorem Bj (U L1 Y Y1 Y0 a b Q:Int) (hY:Y=Y1*4294967296+Y0) (eX:0<Y) (cO:a*Y1+b=U) (hQ:U*4294967296+L1<Q*Y+Y) (ha:Q<=a)
  (hc:a*Y0<=4294967296*b+L1):a=Q:=by
 have h:=Ve U L1 Y Y1 Y0 a b hY cO;have:a<Q+1:=Jd (c:=Y) (by rw [Int.add_mul];omega) eX
 omega
theorem Jg (U L1 Y Y1 Y0 a b Q:Int) (hY:Y=Y1*4294967296+Y0) (eX:0<Y) (Jh:0<=Y0) (h01:Y0<4294967296) (hL:0<=L1) (cO:a*Y1+b=U) (hQ:U*4294967296+L1<Q*Y+Y) (ha:Q<=a) (ha0:0<=a) (l9:a<=4294967296) (hb:4294967296<=b):a=Q:=by
 refine Bj U L1 Y Y1 Y0 a b Q hY eX cO hQ ha ?_;have:a*Y0<=4294967296*Y0:=Int.mul_le_mul_of_nonneg_right l9 Jh;omega
theorem Vf (U L1 Y Y1 Y0 Q:Int) (hY:Y=Y1*4294967296+Y0) (Bk:2147483648<=Y1) (Jh:0<=Y0) (h01:Y0<4294967296) (hL:L1<4294967296) (rV:0<=U) (hU:U<Y) (hQ0:0<=Q) (hQ:Q*Y<=U*4294967296+L1) :
  Q<=U/Y1/\U/Y1<=4294967297/\0<=U/Y1/\U/Y1*Y1+U%Y1=U/\0<=U%Y1/\U%Y1<Y1:=by
 have e:U/Y1*Y1+U%Y1=U:=by rw [Int.mul_comm];exact Int.mul_ediv_add_emod U Y1
 have m0:=Int.emod_nonneg U (b:=Y1) (by omega)
 have m1:=Int.emod_lt_of_pos U (b:=Y1) (by omega)
 have q0:0<=U/Y1:=Int.ediv_nonneg rV (by omega)
 refine ⟨?_,?_,q0,e,m0,m1⟩
 ·refine Int.le_ediv_of_mul_le (by omega) ?_
  subst hY;rw [Int.mul_add,<-Int.mul_assoc] at hQ;have:=Int.mul_nonneg hQ0 Jh;omega
 ·have:U/Y1<4294967298:=Int.ediv_lt_of_lt_mul (by omega) (by omega)
  omega
theorem Vg (U L1 Y Q:Int) (rV:0<=U) (Bl:0<=L1) (hY:0<Y) (hY':Y<18446744073709551616) (hQ:Q=(U*4294967296+L1)/Y) :
  IntKind.u64.wrap (IntKind.u64.wrap (IntKind.u64.wrap (U*4294967296)+L1)-IntKind.u64.wrap (Q*Y))=(U*4294967296+L1)%Y:=by
 have e:Q*Y+(U*4294967296+L1)%Y=U*4294967296+L1:=by rw [hQ,Int.mul_comm];exact Int.mul_ediv_add_emod _ Y
 have m0:=Int.emod_nonneg (U*4294967296+L1) (b:=Y) (by omega)
 have m1:=Int.emod_lt_of_pos (U*4294967296+L1) (b:=Y) (by omega)
 simp only [IntKind.wrap_u64];generalize (U*4294967296+L1)%Y=r at *;generalize Q*Y=p at *;omega
theorem Vh (U Y1:Int) (rV:0<=U) (hU:U<18446744073709551616) (Bk:0<Y1) (ad3:Y1<18446744073709551616) :
  IntKind.u64.wrap (U-IntKind.u64.wrap (U/Y1*Y1))=U%Y1:=by
 have e:U/Y1*Y1+U%Y1=U:=by rw [Int.mul_comm];exact Int.mul_ediv_add_emod U Y1
 have m0:=Int.emod_nonneg U (b:=Y1) (by omega)
 have m1:=Int.emod_lt_of_pos U (b:=Y1) (by omega)
 simp only [IntKind.wrap_u64];generalize U%Y1=r at *;generalize U/Y1*Y1=p at *;omega
theorem oz (a Y0:Int) (ha:0<=a) (l9:a<4294967296) (hY:0<=Y0) (hY':Y0<4294967296):IntKind.u64.wrap (a*Y0)=a*Y0:=by
 have h0:=Int.mul_nonneg ha hY;have h1:a*Y0<=4294967296*Y0:=Int.mul_le_mul_of_nonneg_right (by omega) hY
 rw [IntKind.wrap_u64];generalize a*Y0=p at *;omega
theorem ad4 (Y N U L1 L0 Q1 R1 Q0 R0:Int) (hY:0<Y) (hN:N=(U*4294967296+L1)*4294967296+L0)
  (h1:Q1=(U*4294967296+L1)/Y) (h2:R1=(U*4294967296+L1)%Y) (h3:Q0=(R1*4294967296+L0)/Y) (h4:R0=(R1*4294967296+L0)%Y) :
  Q1*4294967296+Q0=N/Y/\R0=N%Y:=by
 have e1:Q1*Y+R1=U*4294967296+L1:=by rw [h1,h2,Int.mul_comm];exact Int.mul_ediv_add_emod _ Y
 have e2:Q0*Y+R0=R1*4294967296+L0:=by rw [h3,h4,Int.mul_comm];exact Int.mul_ediv_add_emod _ Y
 have m0:0<=R0:=by rw [h4];exact Int.emod_nonneg _ (by omega)
 have m1:R0<Y:=by rw [h4];exact Int.emod_lt_of_pos _ hY
 have e:N=R0+(Q1*4294967296+Q0)*Y:=by
  rw [hN,<-e1,Int.add_mul,Int.add_mul,Int.mul_assoc,Int.mul_comm Y 4294967296,<-Int.mul_assoc];omega
 constructor
 ·rw [e,Int.add_mul_ediv_right _ _ (by omega),Int.ediv_eq_zero_of_lt m0 m1];omega
 ·rw [e,Int.add_mul_emod_self_right];exact (Int.emod_eq_of_lt m0 m1).symm
theorem ad5 (f:Nat):Lib.bitLenAux f 0=0:=by cases f<;>simp [Lib.bitLenAux]
theorem ad6:∀ f x:Nat,x<2^f->x<2^Lib.bitLenAux f x/\(x≠0->2^(Lib.bitLenAux f x-1)<=x/\1<=Lib.bitLenAux f x):=by
 intro f;induction f with
 | zero=>intro x hx;simp at hx;subst hx;simp [Lib.bitLenAux]
 | succ f ih =>
  intro x hx;by_cases h0:x=0
  ·subst h0;simp [Lib.bitLenAux]
  ·have h2:x/2<2^f:=by rw [Nat.pow_succ] at hx;omega
   obtain ⟨i1,i2⟩:=ih (x/2) h2;simp only [Lib.bitLenAux,h0,if_false];by_cases h1:x/2=0
   ·rw [h1,ad5];simp;omega
   ·generalize Lib.bitLenAux f (x/2)=k at *
    obtain ⟨j1,j2⟩:=i2 h1;refine ⟨?_,fun _=>⟨?_,by omega⟩⟩
    ·rw [show 1+k=k+1 by omega,Nat.pow_succ];omega
    ·rw [show 1+k-1=(k-1)+1 by omega,Nat.pow_succ];omega
theorem lead (y:Int) (y0:0<y) (y1:y<18446744073709551616) :
  ∃ s:Nat,s<=63/\(64-(Lib.bitLen y.toNat:Int))=(s:Int)/\9223372036854775808<=y*2^s/\y*2^s<18446744073709551616:=by
 obtain ⟨n,rfl⟩:=Int.eq_ofNat_of_zero_le (Int.le_of_lt y0);rw [Int.toNat_natCast];obtain ⟨a1,a2⟩:=ad6 64 n (by omega)
 obtain ⟨b1,b2⟩:=a2 (by omega)
 have hle:Lib.bitLen n<=64:=Lib.bitLen_le n 64 (Nat.le_refl _) (by omega)
 have e:Lib.bitLenAux 64 n=Lib.bitLen n:=rfl;rw [e] at a1 b1 b2;generalize Lib.bitLen n=k at *;have hc:((n*2^(64-k):Nat):Int)=(n:Int)*2^(64-k):=by rw [Int.natCast_mul,Int.natCast_pow];rfl
 refine ⟨64-k,by omega,by omega,?_,?_⟩
 ·have h:2^(k-1)*2^(64-k)<=n*2^(64-k):=Nat.mul_le_mul_right _ b1
  rw [<-Nat.pow_add,show k-1+(64-k)=63 by omega] at h
  have h':((2^63:Nat):Int)<=((n*2^(64-k):Nat):Int):=Int.ofNat_le.2 h;rw [hc] at h';omega
 ·have h:n*2^(64-k)<2^k*2^(64-k):=Nat.mul_lt_mul_of_pos_right a1 (Nat.two_pow_pos _)
  rw [<-Nat.pow_add,show k+(64-k)=64 by omega] at h
  have h':((n*2^(64-k):Nat):Int)<((2^64:Nat):Int):=Int.ofNat_lt.2 h;rw [hc] at h';omega
theorem ad7 (hi lo y:Int) (s:Nat) (hs:s<=63) (h0:0<=hi) (h1:hi<y) (l0:0<=lo) (l1:lo<18446744073709551616) (hY:y*2^s<18446744073709551616) :
  bits .or .u64 (IntKind.u64.wrap (hi*2^s)) (lo/2^(64-s))=hi*2^s+lo/2^(64-s) /\
  (hi*2^s+lo/2^(64-s))*18446744073709551616+IntKind.u64.wrap (lo*2^s)=(hi*18446744073709551616+lo)*2^s /\
  0<=lo/2^(64-s):=by
 have hP:(0:Int)<2^s:=Int.pow_pos (by decide)
 have Cu:(0:Int)<2^(64-s):=Int.pow_pos (by decide)
 have Ji:(2:Int)^(64-s)*2^s=18446744073709551616:=by
  rw [<-Int.pow_add,show 64-s+s=64 by omega];decide
 have agE:(2:Int)^s<=18446744073709551616:=by
  have Yd:(1:Int)*2^s<=2^(64-s)*2^s:=Int.mul_le_mul_of_nonneg_right (by omega) (by omega)
  omega
 have hhi:hi*2^s<y*2^s:=Int.mul_lt_mul_of_pos_right h1 hP;have Vi:0<=hi*2^s:=Int.mul_nonneg h0 (by omega)
 have ad8:hi*2^s%2^s=0:=Int.mul_emod_left _ _;have d0:0<=lo/2^(64-s):=Int.ediv_nonneg l0 (by omega)
 have d1:lo/2^(64-s)<2^s:=Int.ediv_lt_of_lt_mul Cu (by rw [Int.mul_comm,Ji];exact l1)
 have e:=Int.mul_ediv_add_emod lo (2^(64-s));have m0:=Int.emod_nonneg lo (b:=2^(64-s)) (by omega)
 have m1:=Int.emod_lt_of_pos lo Cu;have ew:IntKind.u64.wrap (hi*2^s)=hi*2^s:=by rw [IntKind.wrap_u64];omega
 refine ⟨?_,?_,d0⟩
 ·rw [ew]
  exact bits_join .u64 64 (by decide) (fun n a b=>by rw [IntKind.wrap_u64];omega) s _ _ Vi ad8 (by omega) d0 d1 (by omega)
 ·have e2:lo*2^s=lo/2^(64-s)*18446744073709551616+lo%2^(64-s)*2^s:=by
   have:lo*2^s=(2^(64-s)*(lo/2^(64-s))+lo%2^(64-s))*2^s:=by rw [e]
   rw [this,Int.add_mul,Int.mul_comm (2^(64-s)) (lo/2^(64-s)),Int.mul_assoc,Ji]
  have r1:lo%2^(64-s)*2^s<18446744073709551616:=by rw [<-Ji];exact Int.mul_lt_mul_of_pos_right m1 hP
  have r0:0<=lo%2^(64-s)*2^s:=Int.mul_nonneg m0 (by omega)
  rw [IntKind.wrap_u64,e2,Int.add_mul,Int.add_mul,e2,Int.mul_assoc hi,Int.mul_comm (2^s) 18446744073709551616,<-Int.mul_assoc];generalize lo%2^(64-s)*2^s=r at *;omega
theorem ad9 (x d:Int) (hx:0<=aq x) (d0:0<d) :
  wrap64 (aq x/d)=aq (sv x/d)/\(aq x%d*18446744073709551616+ar x)/d=ar (sv x/d)/\(aq x%d*18446744073709551616+ar x)%d=sv x%d:=by
 have e:=Int.mul_ediv_add_emod (aq x) d;have m0:=Int.emod_nonneg (aq x) (b:=d) (by omega)
 have m1:=Int.emod_lt_of_pos (aq x) d0;obtain ⟨l0,l1⟩:=rR x;obtain ⟨b1,b2⟩:=T7 x;have qE:0<=aq x/d:=Int.ediv_nonneg hx (by omega)
 have es:sv x=(aq x%d*18446744073709551616+ar x)+(aq x/d*18446744073709551616)*d:=by
  unfold sv;have:aq x*18446744073709551616=(d*(aq x/d)+aq x%d)*18446744073709551616:=by rw [e]
  rw [this,Int.add_mul,Int.mul_comm d,Int.mul_assoc (aq x/d) d,Int.mul_comm d 18446744073709551616,<-Int.mul_assoc];omega
 have t0:0<=(aq x%d*18446744073709551616+ar x)/d:=Int.ediv_nonneg (by omega) (by omega)
 have t1:(aq x%d*18446744073709551616+ar x)/d<18446744073709551616:=Int.ediv_lt_of_lt_mul d0 (by rw [Int.mul_comm];omega)
 have eq:sv x/d=(aq x%d*18446744073709551616+ar x)/d+aq x/d*18446744073709551616:=by
  rw [es,Int.add_mul_ediv_right _ _ (by omega)]
 have er:sv x%d=(aq x%d*18446744073709551616+ar x)%d:=by rw [es,Int.add_mul_emod_self_right]
 refine ⟨?_,?_,er.symm⟩
 ·rw [eq];unfold wrap64
  generalize (aq x%d*18446744073709551616+ar x)/d=t at *;generalize aq x/d=h at *;unfold aq;omega
 ·rw [eq];unfold ar at *
  generalize (aq x%d*18446744073709551616+x%18446744073709551616)/d=t at *;omega
open Go.RowKit Go.Shelf
theorem ad' (lo y:Int) (l0:0<=lo) (l1:lo<18446744073709551616) (y0:0<y) (y1:y<18446744073709551616) (w:World) :
  Calls prog 161 #[.int .u64 0,.int .u64 lo,.int .u64 y] w fun e w'=>e=.returned (.tuple #[.int .u64 (lo/y),.int .u64 (lo%y)])/\∃ n,w'=w.drewN n:=by
 have hy:(y == 0)=false:=by simp;omega
 go_enter func161,ntmps161;go_wp2;go_region
 all_goals
  go_wp2
  go_ret2
  exact ⟨rfl,1,rfl⟩
theorem aea (hi lo y Y U L Y1 Y0 L1 L0 Q1 R1 Q0 R0:Int) (h0:0<hi) (h1:hi<y) (s:Nat) (hs:s<=63)
  (eY:IntKind.u64.wrap (y*2^s)=Y) (eU:bits .or .u64 (IntKind.u64.wrap (hi*2^s)) (lo/2^(64-s))=U) (eL:IntKind.u64.wrap (lo*2^s)=L)
  (eY1:Y/4294967296=Y1) (eY0:bits .and .u64 Y 4294967295=Y0) (eL1:L/4294967296=L1) (eL0:bits .and .u64 L 4294967295=L0)
  (rV:0<=U) (Jj:U<Y) (Bk:2147483648<=Y1) (ad3:Y1<4294967296) (eX:0<=Y0) (jq:Y0<4294967296)
  (Vj:0<=L1) (Jk:L1<4294967296) (Bl:0<=L0) (Bm:L0<4294967296)
  (HY:ag (Y=Y1*4294967296+Y0)) (Jl:ag (Q1=(U*4294967296+L1)/Y)) (Bo:ag (R1=(U*4294967296+L1)%Y)) (Jm:ag (Q0=(R1*4294967296+L0)/Y)) (Bp:ag (R0=(R1*4294967296+L0)%Y))
  (lz:ag (∀ w:World,Calls prog 141 #[.int .u64 y] w fun e w'=>e=.returned (.int .i64 (s:Int))/\w'=w)) (w:World) :
  Calls prog 161 #[.int .u64 hi,.int .u64 lo,.int .u64 y] w fun e w'=>e=.returned (.tuple #[.int .u64 (Q1*4294967296+Q0),.int .u64 (R0/2^s)])/\w'=w:=by
 have hy:(y == 0)=false:=by simp;omega
 have hh:(hi == 0)=false:=by simp;omega
 have hz:¬ Y1=0:=by omega
 have iN:0<Y:=by have:=HY.o;omega
 have Vk:Y<18446744073709551616:=by have:=HY.o;omega
 have hUm:U<18446744073709551616:=by omega
 have r0:0<=R1:=by rw [Bo.o];exact Int.emod_nonneg _ (by omega)
 have r1:R1<Y:=by rw [Bo.o];exact Int.emod_lt_of_pos _ iN
 have vE:0<=R0:=by rw [Bp.o];exact Int.emod_nonneg _ (by omega)
 have yU:R0<Y:=by rw [Bp.o];exact Int.emod_lt_of_pos _ iN
 have hRm:R1<18446744073709551616:=by omega
 have d1:ag (Q1*Y+R1=U*4294967296+L1):=by show _=_;rw [Jl.o,Bo.o,Int.mul_comm];exact Int.mul_ediv_add_emod _ Y
 have d0:ag (Q0*Y+R0=R1*4294967296+L0):=by show _=_;rw [Jm.o,Bp.o,Int.mul_comm];exact Int.mul_ediv_add_emod _ Y
 have q1n:0<=Q1:=by rw [Jl.o];exact Int.ediv_nonneg (by omega) (by omega)
 have q0n:0<=Q0:=by rw [Jm.o];exact Int.ediv_nonneg (by omega) (by omega)
 have q1t:Q1<4294967296:=Je U L1 Y Q1 iN Jj Jk (by have:=d1.o;omega)
 have q0t:Q0<4294967296:=Je R1 L0 Y Q0 iN r1 Bm (by have:=d0.o;omega)
 have Vl:=Vf U L1 Y Y1 Y0 Q1 HY.o Bk eX jq Jk rV Jj q1n (by have:=d1.o;omega)
 have Vm:=Vf R1 L0 Y Y1 Y0 Q0 HY.o Bk eX jq Bm r0 r1 q0n (by have:=d0.o;omega)
 have eb1:IntKind.u64.wrap (U-IntKind.u64.wrap (U/Y1*Y1))=U%Y1:=Vh U Y1 rV hUm (by omega) (by omega)
 have eb0:IntKind.u64.wrap (R1-IntKind.u64.wrap (R1/Y1*Y1))=R1%Y1:=Vh R1 Y1 r0 hRm (by omega) (by omega)
 have eR1:IntKind.u64.wrap (IntKind.u64.wrap (IntKind.u64.wrap (U*4294967296)+L1)-IntKind.u64.wrap (Q1*Y))=R1:=by rw [Bo.o];exact Vg U L1 Y Q1 rV Vj iN Vk Jl.o
 have eR0:IntKind.u64.wrap (IntKind.u64.wrap (IntKind.u64.wrap (R1*4294967296)+L0)-IntKind.u64.wrap (Q0*Y))=R0:=by rw [Bp.o];exact Vg R1 L0 Y Q0 r0 Bl iN Vk Jm.o
 have S1:ag _:=Vl;clear Vl;have S0:ag _:=Vm;clear Vm;go_enter func161,ntmps161;go_wp2_with (go_at_call 141;refine (lz.o _).mono ?_;rintro e w' ⟨rfl,rfl⟩);go_loop [15,16] (fun q r=>∃ a b:Int,q=.int .u64 a/\r=.int .u64 b/\Q1<=a/\a<=4294967297/\0<=b/\b<4294967296/\ag (a*Y1+b=U)) (fun q _=>(intOf q).toNat)
 case atStart=>exact ⟨U/Y1,U%Y1,rfl,rfl,S1.o.1,S1.o.2.1,S1.o.2.2.2.2.1,by have:=S1.o.2.2.2.2.2;omega,S1.o.2.2.2.1⟩
 case round =>
  obtain ⟨a,b,rfl,rfl,ha,l9,hb,cY,HA⟩:=hrel;by_cases g1:4294967296<=a\/4294967296*b+L1<a*Y0
  ·have g2:Q1<=a-1:=Jf U L1 Y Y1 Y0 a b Q1 HY.o iN HA.o Jj Jk (by have:=d1.o;omega) g1
   have g3:ag ((a-1)*Y1+(b+Y1)=U):=by show _=_;have:=HA.o;rw [Int.sub_mul];omega
   have g4:1<=a:=by omega
   by_cases g5:b+Y1<4294967296
   ·have fin:∀ x y:Int,x=a-1->y=b+Y1->(∃ jr jt:Int,Value.int IntKind.u64 x=.int .u64 jr/\Value.int IntKind.u64 y=.int .u64 jt/\Q1<=jr/\jr<=4294967297/\0<=jt/\jt<4294967296/\ag (jr*Y1+jt=U)):=by
     rintro x y rfl rfl;exact ⟨a-1,b+Y1,rfl,rfl,g2,by omega,by omega,g5,g3⟩
    by_cases g6:4294967296<=a
    ·go_wp2
     exact ⟨fin _ _ rfl rfl,by simp [intOf];omega⟩
    ·have e1:=oz a Y0 (by omega) (by omega) eX jq
     have g7:4294967296*b+L1<a*Y0:=by omega
     go_wp2
     exact ⟨fin _ _ rfl rfl,by simp [intOf];omega⟩
   ·have e2:a-1=Q1:=Jg U L1 Y Y1 Y0 (a-1) (b+Y1) Q1 HY.o iN eX jq Vj g3.o (by have:=d1.o;omega) g2 (by omega) (by omega) (by omega)
    by_cases g6:4294967296<=a
    rotate_left
    have e1:=oz a Y0 (by omega) (by omega) eX jq
    have g7:4294967296*b+L1<a*Y0:=by omega
    rotate_left
    all_goals
     go_wp2
     clear e2 g1 g2 g3 g4 g5 g6 ha l9 hb cY HA;go_loop [18,16] (fun q r=>∃ aa bb:Int,q=.int .u64 aa/\r=.int .u64 bb/\Q0<=aa/\aa<=4294967297/\0<=bb/\bb<4294967296/\ag (aa*Y1+bb=R1)) (fun q _=>(intOf q).toNat)
     case atStart=>exact ⟨R1/Y1,R1%Y1,rfl,rfl,S0.o.1,S0.o.2.1,S0.o.2.2.2.2.1,by have:=S0.o.2.2.2.2.2;omega,S0.o.2.2.2.1⟩
     case round =>
      obtain ⟨aa,bb,rfl,rfl,Jn,aeb,ihb,aec,rW⟩:=hrel;by_cases Jo:4294967296<=aa\/4294967296*bb+L0<aa*Y0
      ·have xP:Q0<=aa-1:=Jf R1 L0 Y Y1 Y0 aa bb Q0 HY.o iN rW.o r1 Bm (by have:=d0.o;omega) Jo
       have xQ:ag ((aa-1)*Y1+(bb+Y1)=R1):=by show _=_;have:=rW.o;rw [Int.sub_mul];omega
       have ig4:1<=aa:=by omega
       by_cases Jp:bb+Y1<4294967296
       ·have xR:∀ x z:Int,x=aa-1->z=bb+Y1->(∃ jr jt:Int,Value.int IntKind.u64 x=.int .u64 jr/\Value.int IntKind.u64 z=.int .u64 jt/\Q0<=jr/\jr<=4294967297/\0<=jt/\jt<4294967296/\ag (jr*Y1+jt=R1)):=by
         rintro x z rfl rfl;exact ⟨aa-1,bb+Y1,rfl,rfl,xP,by omega,by omega,Jp,xQ⟩
        by_cases xS:4294967296<=aa
        ·go_wp2
         exact ⟨xR _ _ rfl rfl,by simp [intOf];omega⟩
        ·have xU:=oz aa Y0 (by omega) (by omega) eX jq
         have rX:4294967296*bb+L0<aa*Y0:=by omega
         go_wp2
         exact ⟨xR _ _ rfl rfl,by simp [intOf];omega⟩
       ·have ie2:aa-1=Q0:=Jg R1 L0 Y Y1 Y0 (aa-1) (bb+Y1) Q0 HY.o iN eX jq Bl xQ.o (by have:=d0.o;omega) xP (by omega) (by omega) (by omega)
        by_cases xS:4294967296<=aa
        ·go_wp2
         go_ret2
         exact ⟨rfl,rfl⟩
        ·have xU:=oz aa Y0 (by omega) (by omega) eX jq
         have rX:4294967296*bb+L0<aa*Y0:=by omega
         go_wp2
         go_ret2
         exact ⟨rfl,rfl⟩
      ·have xS:¬ 4294967296<=aa:=by omega
       have rX:aa*Y0<=4294967296*bb+L0:=by omega
       have xU:=oz aa Y0 (by omega) (by omega) eX jq
       obtain rfl:aa=Q0:=Bj R1 L0 Y Y1 Y0 aa bb Q0 HY.o iN rW.o (by have:=d0.o;omega) Jn rX
       go_wp2
       go_ret2
       exact ⟨rfl,rfl⟩
  ·have g6:¬ 4294967296<=a:=by omega
   have g7:a*Y0<=4294967296*b+L1:=by omega
   have e1:=oz a Y0 (by omega) (by omega) eX jq
   obtain rfl:a=Q1:=Bj U L1 Y Y1 Y0 a b Q1 HY.o iN HA.o (by have:=d1.o;omega) ha g7
   go_wp2
   clear g1 g6 g7 e1 ha l9 hb cY HA;go_loop [18,16] (fun q r=>∃ aa bb:Int,q=.int .u64 aa/\r=.int .u64 bb/\Q0<=aa/\aa<=4294967297/\0<=bb/\bb<4294967296/\ag (aa*Y1+bb=R1)) (fun q _=>(intOf q).toNat)
   case atStart=>exact ⟨R1/Y1,R1%Y1,rfl,rfl,S0.o.1,S0.o.2.1,S0.o.2.2.2.2.1,by have:=S0.o.2.2.2.2.2;omega,S0.o.2.2.2.1⟩
   case round =>
    obtain ⟨aa,bb,rfl,rfl,Jn,aeb,ihb,aec,rW⟩:=hrel;by_cases Jo:4294967296<=aa\/4294967296*bb+L0<aa*Y0
    ·have xP:Q0<=aa-1:=Jf R1 L0 Y Y1 Y0 aa bb Q0 HY.o iN rW.o r1 Bm (by have:=d0.o;omega) Jo
     have xQ:ag ((aa-1)*Y1+(bb+Y1)=R1):=by show _=_;have:=rW.o;rw [Int.sub_mul];omega
     have ig4:1<=aa:=by omega
     by_cases Jp:bb+Y1<4294967296
     ·have xR:∀ x z:Int,x=aa-1->z=bb+Y1->(∃ jr jt:Int,Value.int IntKind.u64 x=.int .u64 jr/\Value.int IntKind.u64 z=.int .u64 jt/\Q0<=jr/\jr<=4294967297/\0<=jt/\jt<4294967296/\ag (jr*Y1+jt=R1)):=by
       rintro x z rfl rfl;exact ⟨aa-1,bb+Y1,rfl,rfl,xP,by omega,by omega,Jp,xQ⟩
      by_cases xS:4294967296<=aa
      ·go_wp2
       exact ⟨xR _ _ rfl rfl,by simp [intOf];omega⟩
      ·have xU:=oz aa Y0 (by omega) (by omega) eX jq
       have rX:4294967296*bb+L0<aa*Y0:=by omega
       go_wp2
       exact ⟨xR _ _ rfl rfl,by simp [intOf];omega⟩
     ·have ie2:aa-1=Q0:=Jg R1 L0 Y Y1 Y0 (aa-1) (bb+Y1) Q0 HY.o iN eX jq Bl xQ.o (by have:=d0.o;omega) xP (by omega) (by omega) (by omega)
      by_cases xS:4294967296<=aa
      ·go_wp2
       go_ret2
       exact ⟨rfl,rfl⟩
      ·have xU:=oz aa Y0 (by omega) (by omega) eX jq
       have rX:4294967296*bb+L0<aa*Y0:=by omega
       go_wp2
       go_ret2
       exact ⟨rfl,rfl⟩
    ·have xS:¬ 4294967296<=aa:=by omega
     have rX:aa*Y0<=4294967296*bb+L0:=by omega
     have xU:=oz aa Y0 (by omega) (by omega) eX jq
     obtain rfl:aa=Q0:=Bj R1 L0 Y Y1 Y0 aa bb Q0 HY.o iN rW.o (by have:=d0.o;omega) Jn rX
     go_wp2
     go_ret2
     exact ⟨rfl,rfl⟩
theorem Jq (hi lo y:Int) (h0:0<=hi) (h1:hi<y) (l0:0<=lo) (l1:lo<18446744073709551616) (y1:y<18446744073709551616) (w:World) :
  Calls prog 161 #[.int .u64 hi,.int .u64 lo,.int .u64 y] w fun e w'=>e=.returned (.tuple #[.int .u64 ((hi*18446744073709551616+lo)/y),.int .u64 ((hi*18446744073709551616+lo)%y)])/\∃ n,w'=w.drewN n:=by
 by_cases hz:hi=0
 ·subst hz
  simpa using ad' lo y l0 l1 (by omega) y1 w
 ·obtain ⟨s,hs,es,s1,s2⟩:=lead y (by omega) y1
  obtain ⟨m1,m2,m3⟩:=ad7 hi lo y s hs h0 h1 l0 l1 s2;have hP:(0:Int)<2^s:=Int.pow_pos (by decide)
  have eY:IntKind.u64.wrap (y*2^s)=y*2^s:=by rw [IntKind.wrap_u64];omega
  have Vi:0<=hi*2^s:=Int.mul_nonneg h0 (by omega)
  obtain ⟨w0,w1⟩:=yw (lo*2^s);have lz:ag (∀ w:World,Calls prog 141 #[.int .u64 y] w fun e w'=>e=.returned (.int .i64 (s:Int))/\w'=w):=fun w=>by
   have:=Tryz.bits_LeadingZeros64 y w (by omega) (by omega)
   rw [es] at this;exact this
  have hN:(hi*18446744073709551616+lo)*2^s<y*2^s*18446744073709551616:=by
   have a1:(hi*18446744073709551616+lo)*2^s<(y*18446744073709551616)*2^s:=Int.mul_lt_mul_of_pos_right (by omega) hP
   rw [Int.mul_assoc,Int.mul_comm 18446744073709551616 (2^s),<-Int.mul_assoc] at a1;exact a1
  generalize hY:y*2^s=Y at *;generalize hL:IntKind.u64.wrap (lo*2^s)=L at *;generalize hU:hi*2^s+lo/2^(64-s)=U at *;have hUY:U<Y:=by omega
  have core:=aea hi lo y Y U L (Y/4294967296) (Y%4294967296) (L/4294967296) (L%4294967296)
   ((U*4294967296+L/4294967296)/Y) ((U*4294967296+L/4294967296)%Y)
   (((U*4294967296+L/4294967296)%Y*4294967296+L%4294967296)/Y) (((U*4294967296+L/4294967296)%Y*4294967296+L%4294967296)%Y)
   (by omega) h1 s hs (by rw [hY];exact eY) m1 hL rfl (and_low32 Y (by omega) (by omega)) rfl (and_low32 L (by omega) (by omega))
   (by omega) hUY (by omega) (by omega) (by omega) (by omega) (by omega) (by omega) (by omega) (by omega) (show _=_ by omega) rfl rfl rfl rfl lz w
  have fin:=ad4 Y ((hi*18446744073709551616+lo)*2^s) U (L/4294967296) (L%4294967296) _ _ _ _ (by omega) (by omega) rfl rfl rfl rfl
  rw [fin.1,fin.2,<-hY,Int.mul_ediv_mul_of_pos_left _ _ hP,Int.mul_comm _ (2^s),Int.mul_comm y,Int.mul_emod_mul_of_pos _ _ hP,Int.mul_ediv_cancel_left _ (by omega)] at core
  exact core.mono fun e w' h=>⟨h.1,0,h.2⟩
end Go.Proofs.YtklkpldicbkjeaaGreat
namespace Go.Proofs.YtklkpldicbkjeaaGreat
open Go.RowKit Go.Shelf
theorem aed (x d:Int) (hx:0<=aq x) (d0:0<d) (d1:d<18446744073709551616) (w:World) :
  Calls prog 192 #[.agg #[.int .i64 (aq (x)),.int .u64 (ar (x))],.int .u64 d] w fun e w'=>e=.returned (.tuple #[.agg #[.int .i64 (aq (sv x/d)),.int .u64 (ar (sv x/d))],.int .u64 (sv x%d)])/\Gk 2 w w':=by
 obtain ⟨a1,a2⟩:=rR x;obtain ⟨b1,b2⟩:=T7 x;have hd:¬ d=0:=by omega
 have m0:=Int.emod_nonneg (aq x) (b:=d) (by omega)
 have m1:=Int.emod_lt_of_pos (aq x) d0;go_enter func192,ntmps192;go_wp2;go_quiet ((go_at_call 161;exact Calls.quiet_of (Jq _ _ _ m0 m1 a1 a2 d1 _)));go_wp2;obtain ⟨k1,k2,k3⟩:=ad9 x d hx d0;refine bodyPost_ret (v:=.tuple #[.agg #[.int .i64 (aq (sv x/d)),.int .u64 (ar (sv x/d))],.int .u64 (sv x%d)]) (by simp [results,results192,go_sem,k1,k2,k3]) rfl ⟨rfl,?_,by simp [World.setCell]⟩
 exact (((((Gb.refl _).alloc _ _).alloc _ _).drewN nq).setCell (by simp) _).setCell (by simp) _
theorem div_zero (x:Int) (w:World) :
  Calls prog 182 #[.agg #[.int .i64 (aq (x)),.int .u64 (ar (x))],.int .u64 0] w fun e w'=>e=.returned (.tuple #[.agg #[.int .i64 0,.int .u64 0],.int .u64 0,.int .i64 10])/\Gk 2 w w':=by
 go_enter func182,ntmps182;go_wp2;refine bodyPost_ret (v:=.tuple #[.agg #[.int .i64 0,.int .u64 0],.int .u64 0,.int .i64 10]) (by simp [results,results182,go_sem]) rfl ⟨rfl,?_,by simp⟩
 exact (((Gb.refl _).alloc _ _).alloc _ _)
attribute [local go_sem] frozen?_alloc_cells dD
theorem div_pos (x d:Int) (hx:0<=aq x) (d0:0<d) (d1:d<18446744073709551616) (w:World) :
  Calls prog 182 #[.agg #[.int .i64 (aq (x)),.int .u64 (ar (x))],.int .u64 d] w fun e w'=>e=.returned (.tuple #[.agg #[.int .i64 (aq (sv x/d)),.int .u64 (ar (sv x/d))],.int .u64 (sv x%d),.int .i64 0])/\Gk 5 w w':=by
 have hd:(d == 0)=false:=by simp;omega
 go_enter func182,ntmps182;go_wp2_with (go_at_call 192;refine (aed x d hx d0 d1 _).mono ?_;rintro e w' ⟨rfl,hg⟩;obtain ⟨hc,hf,hz⟩:=hg.facts);refine bodyPost_ret (v:=.tuple #[.agg #[.int .i64 (aq (sv x/d)),.int .u64 (ar (sv x/d))],.int .u64 (sv x%d),.int .i64 0]) (by simp [results,results182,go_sem,hc,hz]) rfl ⟨rfl,?_,by simp [World.setCell,hz]⟩
 exact ((((((Gb.refl _).alloc _ _).alloc _ _).trans hg.gb).setCell (by simp) _).setCell (by simp) _).alloc _ _
theorem aee (n:Int) (h0:-9223372036854775808<=n) (h1:n<9223372036854775808) (w:World) :
  Calls prog 185 #[.int .i64 n] w fun e w'=>e=.returned (.agg #[.int .i64 (aq (n)),.int .u64 (ar (n))])/\Gk 1 w w':=by
 have e1:n/9223372036854775808=aq n:=by unfold aq;omega
 have e2:IntKind.u64.wrap n=ar n:=by unfold ar;rw [IntKind.wrap_u64]
 go_enter func185,ntmps185;go_wp2;refine bodyPost_ret (v:=.agg #[.int .i64 (aq (n)),.int .u64 (ar (n))]) (by simp [results,results185,go_sem]) rfl ⟨rfl,(Gb.refl _).alloc _ _,by simp⟩
end Go.Proofs.YtklkpldicbkjeaaGreat
namespace Go.Proofs.YtklkpldicbkjeaaGreat
open Go.RowKit Go.Shelf
theorem aef (i:Nat):i ||| 1=i/2*2+1:=by
 rcases Nat.mod_two_eq_zero_or_one i with h | h
 ·rw [nat_join 1 i 1 h (by decide)];omega
 ·have e:i=(i/2*2) ||| 1:=by rw [nat_join 1 _ 1 (by omega) (by decide)];omega
  have e2:i ||| 1=((i/2*2) ||| 1) ||| 1:=by rw [<-e]
  rw [e2,Nat.or_assoc,show 1 ||| 1=1 from rfl,nat_join 1 _ 1 (by omega) (by decide)]
theorem aeg (i:Nat) (h:i<18446744073709551616):bits .or .u64 (i:Int) 1=((i/2*2+1:Nat):Int):=by
 have:=u64_or_nat i 1 h (by decide)
 rw [aef] at this;exact this
def dvd (N D:Nat):Nat:=if N<D then N*18446744073709551616 else N*9223372036854775808
def qw (N D:Nat):Nat:=if dvd N D%D=0 then dvd N D/D else dvd N D/D/2*2+1
def qx (N D:Nat):Int:=if N<D then -64 else -63
theorem Jr (N D:Nat) (n0:9223372036854775808<=N) (n1:N<18446744073709551616) (d0:9223372036854775808<=D) (d1:D<18446744073709551616) :
  9223372036854775808<=dvd N D/D/\dvd N D/D<18446744073709551616:=by
 have hD:0<D:=by omega
 unfold dvd;split
 ·exact ⟨(Nat.le_div_iff_mul_le hD).2 (by omega),Nat.div_lt_of_lt_mul (by omega)⟩
 ·exact ⟨(Nat.le_div_iff_mul_le hD).2 (by omega),Nat.div_lt_of_lt_mul (by omega)⟩
theorem aeh (N D:Nat) (n0:9223372036854775808<=N) (n1:N<18446744073709551616) (d0:9223372036854775808<=D) (d1:D<18446744073709551616) (w:World) :
  Calls prog 142 #[.int .u64 N,.int .u64 D] w fun e w'=>e=.returned (.tuple #[.int .u64 (qw N D),.int .i64 (qx N D)])/\∃ n,w'=w.drewN n:=by
 obtain ⟨q0,q1⟩:=Jr N D n0 n1 d0 d1;have ho:=aeg (dvd N D/D) q1;unfold qw qx;unfold dvd at *;by_cases h:N<D
 ·rw [if_pos h] at *
  have e1:((N:Int)*18446744073709551616+0)/D=((N*18446744073709551616/D:Nat):Int):=by rw [Int.add_zero,Int.natCast_ediv,Int.natCast_mul];rfl
  have e2:((N:Int)*18446744073709551616+0)%D=((N*18446744073709551616%D:Nat):Int):=by rw [Int.add_zero,Int.natCast_emod,Int.natCast_mul];rfl
  have dv:=fun w=>Jq N 0 D (by omega) (by omega) (by omega) (by omega) (by omega) w
  rw [e1,e2] at dv;clear e1 e2;generalize N*18446744073709551616/D=q at *;generalize N*18446744073709551616%D=r at *;by_cases hr:r=0
  ·rw [if_pos hr]
   have jA:((r:Int) == 0)=true:=by simp;omega
   go_enter func142,ntmps142;go_wp2_with (go_at_call 161;refine (dv _).mono ?_;rintro e w' ⟨rfl,n,rfl⟩);go_ret2;exact ⟨rfl,_,rfl⟩
  ·rw [if_neg hr]
   have jA:((r:Int) == 0)=false:=by simp;omega
   go_enter func142,ntmps142;go_wp2_with (go_at_call 161;refine (dv _).mono ?_;rintro e w' ⟨rfl,n,rfl⟩);go_ret2;exact ⟨rfl,_,rfl⟩
 ·rw [if_neg h] at *
  have eq:((N:Int)/2)*18446744073709551616+IntKind.u64.wrap ((N:Int)*9223372036854775808)=(N:Int)*9223372036854775808:=by rw [IntKind.wrap_u64];omega
  have e1:((N:Int)*9223372036854775808)/D=((N*9223372036854775808/D:Nat):Int):=by rw [Int.natCast_ediv,Int.natCast_mul];rfl
  have e2:((N:Int)*9223372036854775808)%D=((N*9223372036854775808%D:Nat):Int):=by rw [Int.natCast_emod,Int.natCast_mul];rfl
  obtain ⟨w0,w1⟩:=yw ((N:Int)*9223372036854775808);have dv:=fun w=>Jq ((N:Int)/2) (IntKind.u64.wrap ((N:Int)*9223372036854775808)) D (by omega) (by omega) w0 w1 (by omega) w
  rw [eq,e1,e2] at dv;clear e1 e2 eq w0 w1;generalize N*9223372036854775808/D=q at *;generalize N*9223372036854775808%D=r at *;by_cases hr:r=0
  ·rw [if_pos hr]
   have jA:((r:Int) == 0)=true:=by simp;omega
   go_enter func142,ntmps142;go_wp2_with (go_at_call 161;refine (dv _).mono ?_;rintro e w' ⟨rfl,n,rfl⟩);go_ret2;exact ⟨rfl,_,rfl⟩
  ·rw [if_neg hr]
   have jA:((r:Int) == 0)=false:=by simp;omega
   go_enter func142,ntmps142;go_wp2_with (go_at_call 161;refine (dv _).mono ?_;rintro e w' ⟨rfl,n,rfl⟩);go_ret2;exact ⟨rfl,_,rfl⟩
def kr (wd:Nat):Nat:=if 1024<wd%2048\/wd%2048=1024/\wd/2048%2=1 then wd/2048+1 else wd/2048
theorem aei (wd:Nat) (w0:9223372036854775808<=wd) (w1:wd<18446744073709551616) (f:Nat) (x:Int) (hf:(f:Int)=x+1085) (f1:f<2000) (w:World) :
  Calls prog 143 #[.int .u64 wd,.int .i64 x] w fun e w'=>e=.returned (.float .f64 (f*4503599627370496+kr wd))/\w'=w:=by
 have e1:(wd:Int)/2048=((wd/2048:Nat):Int):=rfl;have e2:(wd:Int)%2048=((wd%2048:Nat):Int):=rfl;obtain rfl:x=(f:Int)-1085:=by omega
 have k0:wd/2048<9007199254740992:=by omega
 unfold kr;generalize wd/2048=k at *;generalize wd%2048=l at *;clear hf;by_cases h1:1024<l
 ·rw [if_pos (.inl h1)]
  go_enter func143,ntmps143;go_wp2_with (simp only [uI]);go_ret;exact ⟨congrArg (fun n=>Ending.returned (Value.float FloatKind.f64 n)) (by omega),rfl⟩
 ·by_cases h2:l=1024
  ·have Kw:((l:Int) == 1024)=true:=by simp;omega
   by_cases h3:k%2=1
   ·have h3':((k:Int)%2 == 1)=true:=by simp;omega
    rw [if_pos (.inr ⟨h2,h3⟩)];go_enter func143,ntmps143;go_wp2_with (simp only [uI]);go_ret;exact ⟨congrArg (fun n=>Ending.returned (Value.float FloatKind.f64 n)) (by omega),rfl⟩
   ·have h3':((k:Int)%2 == 1)=false:=by simp;omega
    rw [if_neg (by omega)]
    go_enter func143,ntmps143;go_wp2_with (simp only [uI]);go_ret;exact ⟨congrArg (fun n=>Ending.returned (Value.float FloatKind.f64 n)) (by omega),rfl⟩
  ·have Kw:((l:Int) == 1024)=false:=by simp;omega
   rw [if_neg (by omega)]
   go_enter func143,ntmps143;go_wp2_with (simp only [uI]);go_ret;exact ⟨congrArg (fun n=>Ending.returned (Value.float FloatKind.f64 n)) (by omega),rfl⟩
theorem aej (q l r D K M:Nat) (hl:q%2048=l) (hr:r<D) (c1:l<1024->M+D<=K) (c2:l=1024->M=K) (c3:1024<l->K<M) :
  (if 1024<(if r=0 then q else q/2*2+1)%2048\/(if r=0 then q else q/2*2+1)%2048=1024/\(if r=0 then q else q/2*2+1)/2048%2=1 then (if r=0 then q else q/2*2+1)/2048+1 else (if r=0 then q else q/2*2+1)/2048) =
   q/2048+(decide (2*K<2*(M+r))||(2*K == 2*(M+r)&&q/2048%2 == 1)).toNat:=by
 have hb:(decide (2*K<2*(M+r))||(2*K == 2*(M+r)&&q/2048%2 == 1))=decide (K<M+r\/K=M+r/\q/2048%2=1):=by
  by_cases a:K<M+r
  ·have:2*K<2*(M+r):=by omega
   simp [a,this]
  ·by_cases b:K=M+r
   ·subst b;by_cases c:q/2048%2=1<;>simp [c]
   ·have n1:¬ 2*K<2*(M+r):=by omega
    have n2:(2*K == 2*(M+r))=false:=by rw [beq_eq_false_iff_ne];omega
    rw [n2,decide_eq_false n1,decide_eq_false (by omega)];rfl
 rw [hb];by_cases h0:r=0
 ·rw [if_pos h0]
  by_cases g:1024<q%2048\/q%2048=1024/\q/2048%2=1
  ·rw [if_pos g,decide_eq_true (by omega)];rfl
  ·rw [if_neg g,decide_eq_false (by omega)];rfl
 ·rw [if_neg h0]
  have s1:(q/2*2+1)/2048=q/2048:=by omega
  have s2:(q/2*2+1)%2048=l/2*2+1:=by omega
  rw [s1,s2];by_cases g:1024<=l
  ·rw [if_pos (by omega),decide_eq_true (by omega)];rfl
  ·rw [if_neg (by omega),decide_eq_false (by omega)];rfl
theorem aek (N D:Nat) (hD:0<D):kr (qw N D)=fD (dvd N D) (D*2048):=by
 unfold kr qw fD;generalize dvd N D=T;have hm:=Nat.mod_lt T hD;have q1:T/(D*2048)=T/D/2048:=by rw [Nat.div_div_eq_div_mul]
 have q2:T%(D*2048)=D*(T/D%2048)+T%D:=by rw [Nat.mod_mul];omega
 have q3:D*2048=2*(D*1024):=by omega
 rw [q1,q2,q3];generalize T/D=q at *;generalize T%D=r at *;have:=aej q (q%2048) r D (D*1024) (D*(q%2048)) rfl hm
  (fun c=>by have:=Nat.mul_le_mul_left D (show q%2048+1<=1024 by omega);rw [Nat.mul_add,Nat.mul_one] at this;exact this)
  (fun c=>by rw [c]) (fun c=>Nat.mul_lt_mul_of_pos_left c hD)
 exact this
theorem Vn (y:Nat) (s:Nat) (y1:y<18446744073709551616) (es:(64-(Lib.bitLen y:Int))=(s:Int)) (w:World) :
  Calls prog 141 #[.int .u64 y] w fun e w'=>e=.returned (.int .i64 (s:Int))/\w'=w:=by
 have:=Tryz.bits_LeadingZeros64 y w (by omega) (by omega)
 rw [Int.toNat_natCast,es] at this;exact this
theorem Vo (y:Nat) (y0:0<y) (y1:y<18446744073709551616) :
  ∃ s:Nat,s<=63/\(64-(Lib.bitLen y:Int))=(s:Int)/\9223372036854775808<=y*2^s/\y*2^s<18446744073709551616:=by
 obtain ⟨s,h1,h2,h3,h4⟩:=lead y (by omega) (by omega)
 rw [Int.toNat_natCast] at h2;have e:((y*2^s:Nat):Int)=(y:Int)*2^s:=by rw [Int.natCast_mul,Int.natCast_pow];rfl
 rw [<-e] at h3 h4;exact ⟨s,h1,h2,by omega,by omega⟩
theorem ael (num den N D s t wd:Nat) (x:Int) (b:Nat) (hn:num<18446744073709551616) (hd:den<18446744073709551616) (n0:0<num) (d0:0<den) (s1:s<=63) (t1:t<=63) (x0:-64<=x) (x1:x<=-63)
  (eN:IntKind.u64.wrap ((num:Int)*2^s)=N) (eD:IntKind.u64.wrap ((den:Int)*2^t)=D)
  (hs:ag (∀ w:World,Calls prog 141 #[.int .u64 num] w fun e w'=>e=.returned (.int .i64 (s:Int))/\w'=w))
  (ht:ag (∀ w:World,Calls prog 141 #[.int .u64 den] w fun e w'=>e=.returned (.int .i64 (t:Int))/\w'=w))
  (hq:ag (∀ w:World,Calls prog 142 #[.int .u64 N,.int .u64 D] w fun e w'=>e=.returned (.tuple #[.int .u64 wd,.int .i64 x])/\∃ n,w'=w.drewN n))
  (hr:ag (∀ w:World,Calls prog 143 #[.int .u64 wd,.int .i64 (x+t-s)] w fun e w'=>e=.returned (.float .f64 b)/\w'=w)) (w:World) :
  Calls prog 119 #[.int .u64 num,.int .u64 den] w fun e w'=>e=.returned (.tuple #[.float .f64 b,.int .i64 0])/\∃ n,w'=w.drewN n:=by
 have h1:((den:Int) == 0)=false:=by simp;omega
 have h2:((num:Int) == 0)=false:=by simp;omega
 go_enter func119,ntmps119;go_wp2_with fail;refine (hs.o _).mono ?_;rintro e w' ⟨rfl,rfl⟩;go_wp2_with fail;refine (ht.o _).mono ?_;rintro e w' ⟨rfl,rfl⟩;go_wp2_with fail;go_quiet ((go_at_call 142;exact Calls.quiet_of (hq.o _)));go_wp2_with (go_at_call 143;refine (hr.o _).mono ?_;rintro e w' ⟨rfl,rfl⟩);go_ret2;exact ⟨rfl,_,rfl⟩
theorem aem (N D:Nat) (n0:9223372036854775808<=N) (n1:N<18446744073709551616) (d0:9223372036854775808<=D) (d1:D<18446744073709551616) :
  9223372036854775808<=qw N D/\qw N D<18446744073709551616:=by
 obtain ⟨a,b⟩:=Jr N D n0 n1 d0 d1;unfold qw;split<;>omega
theorem Vp (n s:Nat) (h:n*2^s<18446744073709551616):IntKind.u64.wrap ((n:Int)*2^s)=((n*2^s:Nat):Int):=by
 have e:((n*2^s:Nat):Int)=(n:Int)*2^s:=by rw [Int.natCast_mul,Int.natCast_pow];rfl
 rw [<-e,IntKind.wrap_u64];omega
theorem aen (num den:Nat) (hn:num<18446744073709551616) (hd:den<18446744073709551616) (n0:0<num) (d0:0<den) :
  ∃ b,Nr (num*Un) den b/\4318952042648305664<=b/\b<=4895412794951729152 /\
   ∀ w,Calls prog 119 #[.int .u64 num,.int .u64 den] w fun e w'=>e=.returned (.tuple #[.float .f64 b,.int .i64 0])/\∃ n,w'=w.drewN n:=by
 obtain ⟨s,s1,es,s2,s3⟩:=Vo num n0 hn;obtain ⟨t,t1,et,t2,t3⟩:=Vo den d0 hd;obtain ⟨q0,q1⟩:=Jr _ _ s2 s3 t2 t3;obtain ⟨k0,k1⟩:=aem _ _ s2 s3 t2 t3;have hD:0<den*2^t:=by omega
 have ek:=aek (num*2^s) (den*2^t) hD;obtain ⟨k,hk,ex,ed⟩:∃ k:Nat,(k=63\/k=64)/\qx (num*2^s) (den*2^t)=-(k:Int)/\dvd (num*2^s) (den*2^t)=num*2^s*2^k:=by
  unfold qx dvd;split
  ·exact ⟨64,.inr rfl,rfl,rfl⟩
  ·exact ⟨63,.inl rfl,rfl,rfl⟩
 obtain ⟨f,hf⟩:∃ f:Nat,(f:Int)=-(k:Int)+t-s+1085:=⟨(-(k:Int)+t-s+1085).toNat,by omega⟩
 have hg:0<den*2^t*2048:=by omega
 have hq:num*2^s*2^k/(den*2^t*2048)=num*2^s*2^k/(den*2^t)/2048:=by rw [Nat.div_div_eq_div_mul]
 rw [ed] at q0 q1 ek;have nr:=Nr.of_rne (num*2^s*2^k) (den*2^t*2048) f hg (by omega) (.inl (by omega))
 obtain ⟨-,-,-,-,r5,r6,-⟩:=Ki (num*2^s*2^k) (den*2^t*2048) hg;rw [<-ek] at nr r5 r6;refine ⟨f*4503599627370496+kr (qw (num*2^s) (den*2^t)),nr.scale hg d0 ?_,by omega,by omega,?_⟩
 ·have e1:num*2^s*2^k*2^f*den=num*den*2^(s+k+f):=by
   rw [Nat.pow_add,Nat.pow_add];ac_rfl
  obtain ⟨j,hj,eU⟩:=kQ;have e2:num*Un*(den*2^t*2048)=num*den*2^(j+t+11):=by
   rw [eU,Nat.pow_add,Nat.pow_add,show (2048:Nat)=2^11 from rfl];ac_rfl
  rw [e1,e2,show s+k+f=j+t+11 by omega]
 ·intro w
  refine ael num den (num*2^s) (den*2^t) s t (qw (num*2^s) (den*2^t)) (-(k:Int)) _ hn hd n0 d0 s1 t1 (by omega) (by omega) (Vp _ _ s3) (Vp _ _ t3)
   (fun w=>Vn num s hn es w) (fun w=>Vn den t hd et w) (fun w=>?_) (fun w=>?_) w
  ·have:=aeh (num*2^s) (den*2^t) s2 s3 t2 t3 w
   rw [ex] at this;exact this
  ·exact aei _ k0 k1 f _ (by omega) (by omega) w
theorem aeo (den:Nat) (hd:0<den) (w:World) :
  Calls prog 119 #[.int .u64 0,.int .u64 den] w fun e w'=>e=.returned (.tuple #[.float .f64 0,.int .i64 0])/\w'=w:=by
 have h1:((den:Int) == 0)=false:=by simp;omega
 go_enter func119,ntmps119;go_wp2;go_ret2;exact ⟨rfl,rfl⟩
end Go.Proofs.YtklkpldicbkjeaaGreat
