/- What every walk here keeps: old memory as it was; the shelf beside it. Plain arithmetic: a quotient of two words by one, digit by digit: no Go in it. math/bits.Div64 gives the quotient and the rest of a number of two words by one word, where the quotient is one word. wide.Div gives the quotient and the rest, of every number from 0 on; wide.Of. -/
import Derived.Deep.DrawnRows
import Derived.Lib.BitFns
import Derived.Shelf.Spec.BitsCarry
import Derived.Test.YtemijdhemdhclaaGreatNPBs
import Derived.Test.YtemijdhemdhclaaGreatNShelf
set_option linter.unusedVariables false
set_option maxHeartbeats 2000000
open Go.Proofs.Tryz
namespace Go.Proofs.YtemijdhemdhclaaGreat
open Go.RowKit
theorem lt_of_mul {a b c:Int} (h:a*c<b*c) (hc:0<c):a<b:=Int.lt_of_mul_lt_mul_right h (by omega)
theorem k_diff (U L1 Y Y1 Y0 a b:Int) (hY:Y=Y1*4294967296+Y0) (hab:a*Y1+b=U) :
  a*Y-(U*4294967296+L1)=a*Y0-(4294967296*b+L1):=by
 subst hY hab;rw [Int.mul_add,Int.add_mul,<-Int.mul_assoc];omega
theorem k_top (U L1 Y Q:Int) (hY:0<Y) (hU:U<Y) (hL:L1<4294967296) (hQ:Q*Y<=U*4294967296+L1):Q<4294967296:=by
 refine lt_of_mul (c:=Y) ?_ hY;omega
theorem k_more (U L1 Y Y1 Y0 a b Q:Int) (hY:Y=Y1*4294967296+Y0) (hY0:0<Y) (hab:a*Y1+b=U) (hU:U<Y) (hL:L1<4294967296) (hQ:Q*Y<=U*4294967296+L1)
  (hc:4294967296<=a\/4294967296*b+L1<a*Y0):Q<=a-1:=by
 rcases hc with hc | hc
 ·have:=k_top U L1 Y Q hY0 hU hL hQ;omega
 ·have h:=k_diff U L1 Y Y1 Y0 a b hY hab
  have:Q<a:=lt_of_mul (c:=Y) (by omega) hY0
  omega
theorem k_done (U L1 Y Y1 Y0 a b Q:Int) (hY:Y=Y1*4294967296+Y0) (hY0:0<Y) (hab:a*Y1+b=U) (hQ:U*4294967296+L1<Q*Y+Y) (ha:Q<=a)
  (hc:a*Y0<=4294967296*b+L1):a=Q:=by
 have h:=k_diff U L1 Y Y1 Y0 a b hY hab;have:a<Q+1:=lt_of_mul (c:=Y) (by rw [Int.add_mul];omega) hY0
 omega
theorem k_break (U L1 Y Y1 Y0 a b Q:Int) (hY:Y=Y1*4294967296+Y0) (hY0:0<Y) (h00:0<=Y0) (h01:Y0<4294967296) (hL:0<=L1) (hab:a*Y1+b=U) (hQ:U*4294967296+L1<Q*Y+Y) (ha:Q<=a) (ha0:0<=a) (ha':a<=4294967296) (hb:4294967296<=b):a=Q:=by
 refine k_done U L1 Y Y1 Y0 a b Q hY hY0 hab hQ ha ?_;have:a*Y0<=4294967296*Y0:=Int.mul_le_mul_of_nonneg_right ha' h00;omega
theorem k_start (U L1 Y Y1 Y0 Q:Int) (hY:Y=Y1*4294967296+Y0) (hY1:2147483648<=Y1) (h00:0<=Y0) (h01:Y0<4294967296) (hL:L1<4294967296) (hU0:0<=U) (hU:U<Y) (hQ0:0<=Q) (hQ:Q*Y<=U*4294967296+L1) :
  Q<=U/Y1/\U/Y1<=4294967297/\0<=U/Y1/\U/Y1*Y1+U%Y1=U/\0<=U%Y1/\U%Y1<Y1:=by
 have e:U/Y1*Y1+U%Y1=U:=by rw [Int.mul_comm];exact Int.mul_ediv_add_emod U Y1
 have m0:=Int.emod_nonneg U (b:=Y1) (by omega)
 have m1:=Int.emod_lt_of_pos U (b:=Y1) (by omega)
 have q0:0<=U/Y1:=Int.ediv_nonneg hU0 (by omega)
 refine ⟨?_,?_,q0,e,m0,m1⟩
 ·refine Int.le_ediv_of_mul_le (by omega) ?_
  subst hY;rw [Int.mul_add,<-Int.mul_assoc] at hQ;have:=Int.mul_nonneg hQ0 h00;omega
 ·have:U/Y1<4294967298:=Int.ediv_lt_of_lt_mul (by omega) (by omega)
  omega
theorem k_rest (U L1 Y Q:Int) (hU0:0<=U) (hL0:0<=L1) (hY:0<Y) (hY':Y<18446744073709551616) (hQ:Q=(U*4294967296+L1)/Y) :
  IntKind.u64.wrap (IntKind.u64.wrap (IntKind.u64.wrap (U*4294967296)+L1)-IntKind.u64.wrap (Q*Y))=(U*4294967296+L1)%Y:=by
 have e:Q*Y+(U*4294967296+L1)%Y=U*4294967296+L1:=by rw [hQ,Int.mul_comm];exact Int.mul_ediv_add_emod _ Y
 have m0:=Int.emod_nonneg (U*4294967296+L1) (b:=Y) (by omega)
 have m1:=Int.emod_lt_of_pos (U*4294967296+L1) (b:=Y) (by omega)
 simp only [IntKind.wrap_u64];generalize (U*4294967296+L1)%Y=r at *;generalize Q*Y=p at *;omega
theorem k_rem (U Y1:Int) (hU0:0<=U) (hU:U<18446744073709551616) (hY1:0<Y1) (hY1':Y1<18446744073709551616) :
  IntKind.u64.wrap (U-IntKind.u64.wrap (U/Y1*Y1))=U%Y1:=by
 have e:U/Y1*Y1+U%Y1=U:=by rw [Int.mul_comm];exact Int.mul_ediv_add_emod U Y1
 have m0:=Int.emod_nonneg U (b:=Y1) (by omega)
 have m1:=Int.emod_lt_of_pos U (b:=Y1) (by omega)
 simp only [IntKind.wrap_u64];generalize U%Y1=r at *;generalize U/Y1*Y1=p at *;omega
theorem k_mul (a Y0:Int) (ha:0<=a) (ha':a<4294967296) (hY:0<=Y0) (hY':Y0<4294967296):IntKind.u64.wrap (a*Y0)=a*Y0:=by
 have h0:=Int.mul_nonneg ha hY;have h1:a*Y0<=4294967296*Y0:=Int.mul_le_mul_of_nonneg_right (by omega) hY
 rw [IntKind.wrap_u64];generalize a*Y0=p at *;omega
theorem k_all (Y N U L1 L0 Q1 R1 Q0 R0:Int) (hY:0<Y) (hN:N=(U*4294967296+L1)*4294967296+L0)
  (h1:Q1=(U*4294967296+L1)/Y) (h2:R1=(U*4294967296+L1)%Y) (h3:Q0=(R1*4294967296+L0)/Y) (h4:R0=(R1*4294967296+L0)%Y) :
  Q1*4294967296+Q0=N/Y/\R0=N%Y:=by
 have e1:Q1*Y+R1=U*4294967296+L1:=by rw [h1,h2,Int.mul_comm];exact Int.mul_ediv_add_emod _ Y
 have e2:Q0*Y+R0=R1*4294967296+L0:=by rw [h3,h4,Int.mul_comm];exact Int.mul_ediv_add_emod _ Y
 have m0:0<=R0:=by rw [h4];exact Int.emod_nonneg _ (by omega)
 have m1:R0<Y:=by rw [h4];exact Int.emod_lt_of_pos _ hY
 have e:N=R0+(Q1*4294967296+Q0)*Y:=by
  rw [hN,<-e1,Int.add_mul,Int.add_mul,Int.mul_assoc,Int.mul_comm Y 4294967296,<-Int.mul_assoc];omega
 constructor
 ·rw [e,Int.add_mul_ediv_right _ _ (by omega),Int.ediv_eq_zero_of_lt m0 m1];omega
 ·rw [e,Int.add_mul_emod_self_right];exact (Int.emod_eq_of_lt m0 m1).symm
theorem aux_zero (f:Nat):Lib.bitLenAux f 0=0:=by cases f<;>simp [Lib.bitLenAux]
theorem aux_spec:∀ f x:Nat,x<2^f->x<2^Lib.bitLenAux f x/\(x≠0->2^(Lib.bitLenAux f x-1)<=x/\1<=Lib.bitLenAux f x):=by
 intro f;induction f with
 | zero=>intro x hx;simp at hx;subst hx;simp [Lib.bitLenAux]
 | succ f ih =>
  intro x hx;by_cases h0:x=0
  ·subst h0;simp [Lib.bitLenAux]
  ·have h2:x/2<2^f:=by rw [Nat.pow_succ] at hx;omega
   obtain ⟨i1,i2⟩:=ih (x/2) h2;simp only [Lib.bitLenAux,h0,if_false];by_cases h1:x/2=0
   ·rw [h1,aux_zero];simp;omega
   ·generalize Lib.bitLenAux f (x/2)=k at *
    obtain ⟨j1,j2⟩:=i2 h1;refine ⟨?_,fun _=>⟨?_,by omega⟩⟩
    ·rw [show 1+k=k+1 by omega,Nat.pow_succ];omega
    ·rw [show 1+k-1=(k-1)+1 by omega,Nat.pow_succ];omega
theorem lead (y:Int) (y0:0<y) (y1:y<18446744073709551616) :
  ∃ s:Nat,s<=63/\(64-(Lib.bitLen y.toNat:Int))=(s:Int)/\9223372036854775808<=y*2^s/\y*2^s<18446744073709551616:=by
 obtain ⟨n,rfl⟩:=Int.eq_ofNat_of_zero_le (Int.le_of_lt y0);rw [Int.toNat_natCast];obtain ⟨a1,a2⟩:=aux_spec 64 n (by omega)
 obtain ⟨b1,b2⟩:=a2 (by omega)
 have hle:Lib.bitLen n<=64:=Lib.bitLen_le n 64 (Nat.le_refl _) (by omega)
 have e:Lib.bitLenAux 64 n=Lib.bitLen n:=rfl;rw [e] at a1 b1 b2;generalize Lib.bitLen n=k at *;have hc:((n*2^(64-k):Nat):Int)=(n:Int)*2^(64-k):=by rw [Int.natCast_mul,Int.natCast_pow];rfl
 refine ⟨64-k,by omega,by omega,?_,?_⟩
 ·have h:2^(k-1)*2^(64-k)<=n*2^(64-k):=Nat.mul_le_mul_right _ b1
  rw [<-Nat.pow_add,show k-1+(64-k)=63 by omega] at h
  have h':((2^63:Nat):Int)<=((n*2^(64-k):Nat):Int):=Int.ofNat_le.2 h;rw [hc] at h';omega
 ·have h:n*2^(64-k)<2^k*2^(64-k):=Nat.mul_lt_mul_of_pos_right a1 (Nat.two_pow_pos _)
  rw [<-Nat.pow_add,show k+(64-k)=64 by omega] at h
  have h':((n*2^(64-k):Nat):Int)<((2^64:Nat):Int):=Int.ofNat_lt.2 h;rw [hc] at h';omega
theorem moved (hi lo y:Int) (s:Nat) (hs:s<=63) (h0:0<=hi) (h1:hi<y) (l0:0<=lo) (l1:lo<18446744073709551616) (hY:y*2^s<18446744073709551616) :
  bits .or .u64 (IntKind.u64.wrap (hi*2^s)) (lo/2^(64-s))=hi*2^s+lo/2^(64-s) /\
  (hi*2^s+lo/2^(64-s))*18446744073709551616+IntKind.u64.wrap (lo*2^s)=(hi*18446744073709551616+lo)*2^s /\
  0<=lo/2^(64-s):=by
 have hP:(0:Int)<2^s:=Int.pow_pos (by decide)
 have hP':(0:Int)<2^(64-s):=Int.pow_pos (by decide)
 have hPP:(2:Int)^(64-s)*2^s=18446744073709551616:=by
  rw [<-Int.pow_add,show 64-s+s=64 by omega];decide
 have hPle:(2:Int)^s<=18446744073709551616:=by
  have h1':(1:Int)*2^s<=2^(64-s)*2^s:=Int.mul_le_mul_of_nonneg_right (by omega) (by omega)
  omega
 have hhi:hi*2^s<y*2^s:=Int.mul_lt_mul_of_pos_right h1 hP;have hh0:0<=hi*2^s:=Int.mul_nonneg h0 (by omega)
 have hmod:hi*2^s%2^s=0:=Int.mul_emod_left _ _;have d0:0<=lo/2^(64-s):=Int.ediv_nonneg l0 (by omega)
 have d1:lo/2^(64-s)<2^s:=Int.ediv_lt_of_lt_mul hP' (by rw [Int.mul_comm,hPP];exact l1)
 have e:=Int.mul_ediv_add_emod lo (2^(64-s));have m0:=Int.emod_nonneg lo (b:=2^(64-s)) (by omega)
 have m1:=Int.emod_lt_of_pos lo hP';have ew:IntKind.u64.wrap (hi*2^s)=hi*2^s:=by rw [IntKind.wrap_u64];omega
 refine ⟨?_,?_,d0⟩
 ·rw [ew]
  exact bits_join .u64 64 (by decide) (fun n a b=>by rw [IntKind.wrap_u64];omega) s _ _ hh0 hmod (by omega) d0 d1 (by omega)
 ·have e2:lo*2^s=lo/2^(64-s)*18446744073709551616+lo%2^(64-s)*2^s:=by
   have:lo*2^s=(2^(64-s)*(lo/2^(64-s))+lo%2^(64-s))*2^s:=by rw [e]
   rw [this,Int.add_mul,Int.mul_comm (2^(64-s)) (lo/2^(64-s)),Int.mul_assoc,hPP]
  have r1:lo%2^(64-s)*2^s<18446744073709551616:=by rw [<-hPP];exact Int.mul_lt_mul_of_pos_right m1 hP
  have r0:0<=lo%2^(64-s)*2^s:=Int.mul_nonneg m0 (by omega)
  rw [IntKind.wrap_u64,e2,Int.add_mul,Int.add_mul,e2,Int.mul_assoc hi,Int.mul_comm (2^s) 18446744073709551616,<-Int.mul_assoc];generalize lo%2^(64-s)*2^s=r at *;omega
theorem div_words (x d:Int) (hx:0<=hiv x) (d0:0<d) :
  wrap64 (hiv x/d)=hiv (sv x/d)/\(hiv x%d*18446744073709551616+lov x)/d=lov (sv x/d)/\(hiv x%d*18446744073709551616+lov x)%d=sv x%d:=by
 have e:=Int.mul_ediv_add_emod (hiv x) d;have m0:=Int.emod_nonneg (hiv x) (b:=d) (by omega)
 have m1:=Int.emod_lt_of_pos (hiv x) d0;obtain ⟨l0,l1⟩:=lov_bd x;obtain ⟨b1,b2⟩:=hiv_bd x;have hq0:0<=hiv x/d:=Int.ediv_nonneg hx (by omega)
 have es:sv x=(hiv x%d*18446744073709551616+lov x)+(hiv x/d*18446744073709551616)*d:=by
  unfold sv;have:hiv x*18446744073709551616=(d*(hiv x/d)+hiv x%d)*18446744073709551616:=by rw [e]
  rw [this,Int.add_mul,Int.mul_comm d,Int.mul_assoc (hiv x/d) d,Int.mul_comm d 18446744073709551616,<-Int.mul_assoc];omega
 have t0:0<=(hiv x%d*18446744073709551616+lov x)/d:=Int.ediv_nonneg (by omega) (by omega)
 have t1:(hiv x%d*18446744073709551616+lov x)/d<18446744073709551616:=Int.ediv_lt_of_lt_mul d0 (by rw [Int.mul_comm];omega)
 have eq:sv x/d=(hiv x%d*18446744073709551616+lov x)/d+hiv x/d*18446744073709551616:=by
  rw [es,Int.add_mul_ediv_right _ _ (by omega)]
 have er:sv x%d=(hiv x%d*18446744073709551616+lov x)%d:=by rw [es,Int.add_mul_emod_self_right]
 refine ⟨?_,?_,er.symm⟩
 ·rw [eq];unfold wrap64
  generalize (hiv x%d*18446744073709551616+lov x)/d=t at *;generalize hiv x/d=h at *;unfold hiv;omega
 ·rw [eq];unfold lov at *
  generalize (hiv x%d*18446744073709551616+x%18446744073709551616)/d=t at *;omega
open Go.RowKit Go.Shelf
theorem div64_small (lo y:Int) (l0:0<=lo) (l1:lo<18446744073709551616) (y0:0<y) (y1:y<18446744073709551616) (w:World) :
  Calls prog 163 #[.int .u64 0,.int .u64 lo,.int .u64 y] w fun e w'=>e=.returned (.tuple #[.int .u64 (lo/y),.int .u64 (lo%y)])/\∃ n,w'=w.drewN n:=by
 have hy:(y == 0)=false:=by simp;omega
 go_enter func163,ntmps163;go_wp2;go_region
 all_goals
  go_wp2
  go_ret2
  exact ⟨rfl,1,rfl⟩
theorem div64_core (hi lo y Y U L Y1 Y0 L1 L0 Q1 R1 Q0 R0:Int) (h0:0<hi) (h1:hi<y) (s:Nat) (hs:s<=63)
  (eY:IntKind.u64.wrap (y*2^s)=Y) (eU:bits .or .u64 (IntKind.u64.wrap (hi*2^s)) (lo/2^(64-s))=U) (eL:IntKind.u64.wrap (lo*2^s)=L)
  (eY1:Y/4294967296=Y1) (eY0:bits .and .u64 Y 4294967295=Y0) (eL1:L/4294967296=L1) (eL0:bits .and .u64 L 4294967295=L0)
  (hU0:0<=U) (hU1:U<Y) (hY1:2147483648<=Y1) (hY1':Y1<4294967296) (hY0:0<=Y0) (hY0':Y0<4294967296)
  (hL1:0<=L1) (hL1':L1<4294967296) (hL0:0<=L0) (hL0':L0<4294967296)
  (HY:Hid (Y=Y1*4294967296+Y0)) (HQ1:Hid (Q1=(U*4294967296+L1)/Y)) (HR1:Hid (R1=(U*4294967296+L1)%Y)) (HQ0:Hid (Q0=(R1*4294967296+L0)/Y)) (HR0:Hid (R0=(R1*4294967296+L0)%Y))
  (lz:Hid (∀ w:World,Calls prog 148 #[.int .u64 y] w fun e w'=>e=.returned (.int .i64 (s:Int))/\w'=w)) (w:World) :
  Calls prog 163 #[.int .u64 hi,.int .u64 lo,.int .u64 y] w fun e w'=>e=.returned (.tuple #[.int .u64 (Q1*4294967296+Q0),.int .u64 (R0/2^s)])/\w'=w:=by
 have hy:(y == 0)=false:=by simp;omega
 have hh:(hi == 0)=false:=by simp;omega
 have hz:¬ Y1=0:=by omega
 have hYp:0<Y:=by have:=HY.out;omega
 have hYm:Y<18446744073709551616:=by have:=HY.out;omega
 have hUm:U<18446744073709551616:=by omega
 have r0:0<=R1:=by rw [HR1.out];exact Int.emod_nonneg _ (by omega)
 have r1:R1<Y:=by rw [HR1.out];exact Int.emod_lt_of_pos _ hYp
 have r0':0<=R0:=by rw [HR0.out];exact Int.emod_nonneg _ (by omega)
 have r1':R0<Y:=by rw [HR0.out];exact Int.emod_lt_of_pos _ hYp
 have hRm:R1<18446744073709551616:=by omega
 have d1:Hid (Q1*Y+R1=U*4294967296+L1):=by show _=_;rw [HQ1.out,HR1.out,Int.mul_comm];exact Int.mul_ediv_add_emod _ Y
 have d0:Hid (Q0*Y+R0=R1*4294967296+L0):=by show _=_;rw [HQ0.out,HR0.out,Int.mul_comm];exact Int.mul_ediv_add_emod _ Y
 have q1n:0<=Q1:=by rw [HQ1.out];exact Int.ediv_nonneg (by omega) (by omega)
 have q0n:0<=Q0:=by rw [HQ0.out];exact Int.ediv_nonneg (by omega) (by omega)
 have q1t:Q1<4294967296:=k_top U L1 Y Q1 hYp hU1 hL1' (by have:=d1.out;omega)
 have q0t:Q0<4294967296:=k_top R1 L0 Y Q0 hYp r1 hL0' (by have:=d0.out;omega)
 have st1:=k_start U L1 Y Y1 Y0 Q1 HY.out hY1 hY0 hY0' hL1' hU0 hU1 q1n (by have:=d1.out;omega)
 have st0:=k_start R1 L0 Y Y1 Y0 Q0 HY.out hY1 hY0 hY0' hL0' r0 r1 q0n (by have:=d0.out;omega)
 have eb1:IntKind.u64.wrap (U-IntKind.u64.wrap (U/Y1*Y1))=U%Y1:=k_rem U Y1 hU0 hUm (by omega) (by omega)
 have eb0:IntKind.u64.wrap (R1-IntKind.u64.wrap (R1/Y1*Y1))=R1%Y1:=k_rem R1 Y1 r0 hRm (by omega) (by omega)
 have eR1:IntKind.u64.wrap (IntKind.u64.wrap (IntKind.u64.wrap (U*4294967296)+L1)-IntKind.u64.wrap (Q1*Y))=R1:=by rw [HR1.out];exact k_rest U L1 Y Q1 hU0 hL1 hYp hYm HQ1.out
 have eR0:IntKind.u64.wrap (IntKind.u64.wrap (IntKind.u64.wrap (R1*4294967296)+L0)-IntKind.u64.wrap (Q0*Y))=R0:=by rw [HR0.out];exact k_rest R1 L0 Y Q0 r0 hL0 hYp hYm HQ0.out
 have S1:Hid _:=st1;clear st1;have S0:Hid _:=st0;clear st0;go_enter func163,ntmps163;go_wp2_with (go_at_call 148;refine (lz.out _).mono ?_;rintro e w' ⟨rfl,rfl⟩);go_loop [15,16] (fun q r=>∃ a b:Int,q=.int .u64 a/\r=.int .u64 b/\Q1<=a/\a<=4294967297/\0<=b/\b<4294967296/\Hid (a*Y1+b=U)) (fun q _=>(intOf q).toNat)
 case atStart=>exact ⟨U/Y1,U%Y1,rfl,rfl,S1.out.1,S1.out.2.1,S1.out.2.2.2.2.1,by have:=S1.out.2.2.2.2.2;omega,S1.out.2.2.2.1⟩
 case round =>
  obtain ⟨a,b,rfl,rfl,ha,ha',hb,hb',HA⟩:=hrel;by_cases g1:4294967296<=a\/4294967296*b+L1<a*Y0
  ·have g2:Q1<=a-1:=k_more U L1 Y Y1 Y0 a b Q1 HY.out hYp HA.out hU1 hL1' (by have:=d1.out;omega) g1
   have g3:Hid ((a-1)*Y1+(b+Y1)=U):=by show _=_;have:=HA.out;rw [Int.sub_mul];omega
   have g4:1<=a:=by omega
   by_cases g5:b+Y1<4294967296
   ·have fin:∀ x y:Int,x=a-1->y=b+Y1->(∃ a_1 b_1:Int,Value.int IntKind.u64 x=.int .u64 a_1/\Value.int IntKind.u64 y=.int .u64 b_1/\Q1<=a_1/\a_1<=4294967297/\0<=b_1/\b_1<4294967296/\Hid (a_1*Y1+b_1=U)):=by
     rintro x y rfl rfl;exact ⟨a-1,b+Y1,rfl,rfl,g2,by omega,by omega,g5,g3⟩
    by_cases g6:4294967296<=a
    ·go_wp2
     exact ⟨fin _ _ rfl rfl,by simp [intOf];omega⟩
    ·have e1:=k_mul a Y0 (by omega) (by omega) hY0 hY0'
     have g7:4294967296*b+L1<a*Y0:=by omega
     go_wp2
     exact ⟨fin _ _ rfl rfl,by simp [intOf];omega⟩
   ·have e2:a-1=Q1:=k_break U L1 Y Y1 Y0 (a-1) (b+Y1) Q1 HY.out hYp hY0 hY0' hL1 g3.out (by have:=d1.out;omega) g2 (by omega) (by omega) (by omega)
    by_cases g6:4294967296<=a
    rotate_left
    have e1:=k_mul a Y0 (by omega) (by omega) hY0 hY0'
    have g7:4294967296*b+L1<a*Y0:=by omega
    rotate_left
    all_goals
     go_wp2
     clear e2 g1 g2 g3 g4 g5 g6 ha ha' hb hb' HA;go_loop [18,16] (fun q r=>∃ aa bb:Int,q=.int .u64 aa/\r=.int .u64 bb/\Q0<=aa/\aa<=4294967297/\0<=bb/\bb<4294967296/\Hid (aa*Y1+bb=R1)) (fun q _=>(intOf q).toNat)
     case atStart=>exact ⟨R1/Y1,R1%Y1,rfl,rfl,S0.out.1,S0.out.2.1,S0.out.2.2.2.2.1,by have:=S0.out.2.2.2.2.2;omega,S0.out.2.2.2.1⟩
     case round =>
      obtain ⟨aa,bb,rfl,rfl,iha,iha',ihb,ihb',iHA⟩:=hrel;by_cases ig1:4294967296<=aa\/4294967296*bb+L0<aa*Y0
      ·have ig2:Q0<=aa-1:=k_more R1 L0 Y Y1 Y0 aa bb Q0 HY.out hYp iHA.out r1 hL0' (by have:=d0.out;omega) ig1
       have ig3:Hid ((aa-1)*Y1+(bb+Y1)=R1):=by show _=_;have:=iHA.out;rw [Int.sub_mul];omega
       have ig4:1<=aa:=by omega
       by_cases ig5:bb+Y1<4294967296
       ·have ifin:∀ x z:Int,x=aa-1->z=bb+Y1->(∃ a_1 b_1:Int,Value.int IntKind.u64 x=.int .u64 a_1/\Value.int IntKind.u64 z=.int .u64 b_1/\Q0<=a_1/\a_1<=4294967297/\0<=b_1/\b_1<4294967296/\Hid (a_1*Y1+b_1=R1)):=by
         rintro x z rfl rfl;exact ⟨aa-1,bb+Y1,rfl,rfl,ig2,by omega,by omega,ig5,ig3⟩
        by_cases ig6:4294967296<=aa
        ·go_wp2
         exact ⟨ifin _ _ rfl rfl,by simp [intOf];omega⟩
        ·have ie1:=k_mul aa Y0 (by omega) (by omega) hY0 hY0'
         have ig7:4294967296*bb+L0<aa*Y0:=by omega
         go_wp2
         exact ⟨ifin _ _ rfl rfl,by simp [intOf];omega⟩
       ·have ie2:aa-1=Q0:=k_break R1 L0 Y Y1 Y0 (aa-1) (bb+Y1) Q0 HY.out hYp hY0 hY0' hL0 ig3.out (by have:=d0.out;omega) ig2 (by omega) (by omega) (by omega)
        by_cases ig6:4294967296<=aa
        ·go_wp2
         go_ret2
         exact ⟨rfl,rfl⟩
        ·have ie1:=k_mul aa Y0 (by omega) (by omega) hY0 hY0'
         have ig7:4294967296*bb+L0<aa*Y0:=by omega
         go_wp2
         go_ret2
         exact ⟨rfl,rfl⟩
      ·have ig6:¬ 4294967296<=aa:=by omega
       have ig7:aa*Y0<=4294967296*bb+L0:=by omega
       have ie1:=k_mul aa Y0 (by omega) (by omega) hY0 hY0'
       obtain rfl:aa=Q0:=k_done R1 L0 Y Y1 Y0 aa bb Q0 HY.out hYp iHA.out (by have:=d0.out;omega) iha ig7
       go_wp2
       go_ret2
       exact ⟨rfl,rfl⟩
  ·have g6:¬ 4294967296<=a:=by omega
   have g7:a*Y0<=4294967296*b+L1:=by omega
   have e1:=k_mul a Y0 (by omega) (by omega) hY0 hY0'
   obtain rfl:a=Q1:=k_done U L1 Y Y1 Y0 a b Q1 HY.out hYp HA.out (by have:=d1.out;omega) ha g7
   go_wp2
   clear g1 g6 g7 e1 ha ha' hb hb' HA;go_loop [18,16] (fun q r=>∃ aa bb:Int,q=.int .u64 aa/\r=.int .u64 bb/\Q0<=aa/\aa<=4294967297/\0<=bb/\bb<4294967296/\Hid (aa*Y1+bb=R1)) (fun q _=>(intOf q).toNat)
   case atStart=>exact ⟨R1/Y1,R1%Y1,rfl,rfl,S0.out.1,S0.out.2.1,S0.out.2.2.2.2.1,by have:=S0.out.2.2.2.2.2;omega,S0.out.2.2.2.1⟩
   case round =>
    obtain ⟨aa,bb,rfl,rfl,iha,iha',ihb,ihb',iHA⟩:=hrel;by_cases ig1:4294967296<=aa\/4294967296*bb+L0<aa*Y0
    ·have ig2:Q0<=aa-1:=k_more R1 L0 Y Y1 Y0 aa bb Q0 HY.out hYp iHA.out r1 hL0' (by have:=d0.out;omega) ig1
     have ig3:Hid ((aa-1)*Y1+(bb+Y1)=R1):=by show _=_;have:=iHA.out;rw [Int.sub_mul];omega
     have ig4:1<=aa:=by omega
     by_cases ig5:bb+Y1<4294967296
     ·have ifin:∀ x z:Int,x=aa-1->z=bb+Y1->(∃ a_1 b_1:Int,Value.int IntKind.u64 x=.int .u64 a_1/\Value.int IntKind.u64 z=.int .u64 b_1/\Q0<=a_1/\a_1<=4294967297/\0<=b_1/\b_1<4294967296/\Hid (a_1*Y1+b_1=R1)):=by
       rintro x z rfl rfl;exact ⟨aa-1,bb+Y1,rfl,rfl,ig2,by omega,by omega,ig5,ig3⟩
      by_cases ig6:4294967296<=aa
      ·go_wp2
       exact ⟨ifin _ _ rfl rfl,by simp [intOf];omega⟩
      ·have ie1:=k_mul aa Y0 (by omega) (by omega) hY0 hY0'
       have ig7:4294967296*bb+L0<aa*Y0:=by omega
       go_wp2
       exact ⟨ifin _ _ rfl rfl,by simp [intOf];omega⟩
     ·have ie2:aa-1=Q0:=k_break R1 L0 Y Y1 Y0 (aa-1) (bb+Y1) Q0 HY.out hYp hY0 hY0' hL0 ig3.out (by have:=d0.out;omega) ig2 (by omega) (by omega) (by omega)
      by_cases ig6:4294967296<=aa
      ·go_wp2
       go_ret2
       exact ⟨rfl,rfl⟩
      ·have ie1:=k_mul aa Y0 (by omega) (by omega) hY0 hY0'
       have ig7:4294967296*bb+L0<aa*Y0:=by omega
       go_wp2
       go_ret2
       exact ⟨rfl,rfl⟩
    ·have ig6:¬ 4294967296<=aa:=by omega
     have ig7:aa*Y0<=4294967296*bb+L0:=by omega
     have ie1:=k_mul aa Y0 (by omega) (by omega) hY0 hY0'
     obtain rfl:aa=Q0:=k_done R1 L0 Y Y1 Y0 aa bb Q0 HY.out hYp iHA.out (by have:=d0.out;omega) iha ig7
     go_wp2
     go_ret2
     exact ⟨rfl,rfl⟩
theorem div64_any (hi lo y:Int) (h0:0<=hi) (h1:hi<y) (l0:0<=lo) (l1:lo<18446744073709551616) (y1:y<18446744073709551616) (w:World) :
  Calls prog 163 #[.int .u64 hi,.int .u64 lo,.int .u64 y] w fun e w'=>e=.returned (.tuple #[.int .u64 ((hi*18446744073709551616+lo)/y),.int .u64 ((hi*18446744073709551616+lo)%y)])/\∃ n,w'=w.drewN n:=by
 by_cases hz:hi=0
 ·subst hz
  simpa using div64_small lo y l0 l1 (by omega) y1 w
 ·obtain ⟨s,hs,es,s1,s2⟩:=lead y (by omega) y1
  obtain ⟨m1,m2,m3⟩:=moved hi lo y s hs h0 h1 l0 l1 s2;have hP:(0:Int)<2^s:=Int.pow_pos (by decide)
  have eY:IntKind.u64.wrap (y*2^s)=y*2^s:=by rw [IntKind.wrap_u64];omega
  have hh0:0<=hi*2^s:=Int.mul_nonneg h0 (by omega)
  obtain ⟨w0,w1⟩:=u64w_bd (lo*2^s);have lz:Hid (∀ w:World,Calls prog 148 #[.int .u64 y] w fun e w'=>e=.returned (.int .i64 (s:Int))/\w'=w):=fun w=>by
   have:=Tryz.bits_LeadingZeros64 y w (by omega) (by omega)
   rw [es] at this;exact this
  have hN:(hi*18446744073709551616+lo)*2^s<y*2^s*18446744073709551616:=by
   have a1:(hi*18446744073709551616+lo)*2^s<(y*18446744073709551616)*2^s:=Int.mul_lt_mul_of_pos_right (by omega) hP
   rw [Int.mul_assoc,Int.mul_comm 18446744073709551616 (2^s),<-Int.mul_assoc] at a1;exact a1
  generalize hY:y*2^s=Y at *;generalize hL:IntKind.u64.wrap (lo*2^s)=L at *;generalize hU:hi*2^s+lo/2^(64-s)=U at *;have hUY:U<Y:=by omega
  have core:=div64_core hi lo y Y U L (Y/4294967296) (Y%4294967296) (L/4294967296) (L%4294967296)
   ((U*4294967296+L/4294967296)/Y) ((U*4294967296+L/4294967296)%Y)
   (((U*4294967296+L/4294967296)%Y*4294967296+L%4294967296)/Y) (((U*4294967296+L/4294967296)%Y*4294967296+L%4294967296)%Y)
   (by omega) h1 s hs (by rw [hY];exact eY) m1 hL rfl (and_low32 Y (by omega) (by omega)) rfl (and_low32 L (by omega) (by omega))
   (by omega) hUY (by omega) (by omega) (by omega) (by omega) (by omega) (by omega) (by omega) (by omega) (show _=_ by omega) rfl rfl rfl rfl lz w
  have fin:=k_all Y ((hi*18446744073709551616+lo)*2^s) U (L/4294967296) (L%4294967296) _ _ _ _ (by omega) (by omega) rfl rfl rfl rfl
  rw [fin.1,fin.2,<-hY,Int.mul_ediv_mul_of_pos_left _ _ hP,Int.mul_comm _ (2^s),Int.mul_comm y,Int.mul_emod_mul_of_pos _ _ hP,Int.mul_ediv_cancel_left _ (by omega)] at core
  exact core.mono fun e w' h=>⟨h.1,0,h.2⟩
end Go.Proofs.YtemijdhemdhclaaGreat
namespace Go.Proofs.YtemijdhemdhclaaGreat
open Go.RowKit Go.Shelf
theorem divide_any (x d:Int) (hx:0<=hiv x) (d0:0<d) (d1:d<18446744073709551616) (w:World) :
  Calls prog 183 #[.agg #[.int .i64 (hiv (x)),.int .u64 (lov (x))],.int .u64 d] w fun e w'=>e=.returned (.tuple #[.agg #[.int .i64 (hiv (sv x/d)),.int .u64 (lov (sv x/d))],.int .u64 (sv x%d)])/\Gk 2 w w':=by
 obtain ⟨a1,a2⟩:=lov_bd x;obtain ⟨b1,b2⟩:=hiv_bd x;have hd:¬ d=0:=by omega
 have m0:=Int.emod_nonneg (hiv x) (b:=d) (by omega)
 have m1:=Int.emod_lt_of_pos (hiv x) d0;go_enter func183,ntmps183;go_wp2;go_quiet ((go_at_call 163;exact Calls.quiet_of (div64_any _ _ _ m0 m1 a1 a2 d1 _)));go_wp2;obtain ⟨k1,k2,k3⟩:=div_words x d hx d0;refine bodyPost_ret (v:=.tuple #[.agg #[.int .i64 (hiv (sv x/d)),.int .u64 (lov (sv x/d))],.int .u64 (sv x%d)]) (by simp [results,results183,go_sem,k1,k2,k3]) rfl ⟨rfl,?_,by simp [World.setCell]⟩
 exact (((((Gb.refl _).alloc _ _).alloc _ _).drewN nq).setCell (by simp) _).setCell (by simp) _
theorem div_zero (x:Int) (w:World) :
  Calls prog 174 #[.agg #[.int .i64 (hiv (x)),.int .u64 (lov (x))],.int .u64 0] w fun e w'=>e=.returned (.tuple #[.agg #[.int .i64 0,.int .u64 0],.int .u64 0,.int .i64 10])/\Gk 2 w w':=by
 go_enter func174,ntmps174;go_wp2;refine bodyPost_ret (v:=.tuple #[.agg #[.int .i64 0,.int .u64 0],.int .u64 0,.int .i64 10]) (by simp [results,results174,go_sem]) rfl ⟨rfl,?_,by simp⟩
 exact (((Gb.refl _).alloc _ _).alloc _ _)
attribute [local go_sem] frozen?_alloc_cells frozen?_new
theorem div_pos (x d:Int) (hx:0<=hiv x) (d0:0<d) (d1:d<18446744073709551616) (w:World) :
  Calls prog 174 #[.agg #[.int .i64 (hiv (x)),.int .u64 (lov (x))],.int .u64 d] w fun e w'=>e=.returned (.tuple #[.agg #[.int .i64 (hiv (sv x/d)),.int .u64 (lov (sv x/d))],.int .u64 (sv x%d),.int .i64 0])/\Gk 5 w w':=by
 have hd:(d == 0)=false:=by simp;omega
 go_enter func174,ntmps174;go_wp2_with (go_at_call 183;refine (divide_any x d hx d0 d1 _).mono ?_;rintro e w' ⟨rfl,hg⟩;obtain ⟨hc,hf,hz⟩:=hg.facts);refine bodyPost_ret (v:=.tuple #[.agg #[.int .i64 (hiv (sv x/d)),.int .u64 (lov (sv x/d))],.int .u64 (sv x%d),.int .i64 0]) (by simp [results,results174,go_sem,hc,hz]) rfl ⟨rfl,?_,by simp [World.setCell,hz]⟩
 exact ((((((Gb.refl _).alloc _ _).alloc _ _).trans hg.gb).setCell (by simp) _).setCell (by simp) _).alloc _ _
theorem wof_any (n:Int) (h0:-9223372036854775808<=n) (h1:n<9223372036854775808) (w:World) :
  Calls prog 177 #[.int .i64 n] w fun e w'=>e=.returned (.agg #[.int .i64 (hiv (n)),.int .u64 (lov (n))])/\Gk 1 w w':=by
 have e1:n/9223372036854775808=hiv n:=by unfold hiv;omega
 have e2:IntKind.u64.wrap n=lov n:=by unfold lov;rw [IntKind.wrap_u64]
 go_enter func177,ntmps177;go_wp2;refine bodyPost_ret (v:=.agg #[.int .i64 (hiv (n)),.int .u64 (lov (n))]) (by simp [results,results177,go_sem]) rfl ⟨rfl,(Gb.refl _).alloc _ _,by simp⟩
end Go.Proofs.YtemijdhemdhclaaGreat
