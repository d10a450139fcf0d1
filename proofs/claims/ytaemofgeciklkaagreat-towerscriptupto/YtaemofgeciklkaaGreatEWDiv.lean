import Derived.Deep.DrawnRows
import Derived.Shelf.Spec.BitsCarry
import Derived.Test.YtaemofgeciklkaaGreatEPBs
import Derived.Test.YtaemofgeciklkaaGreatEShelf
set_option linter.unusedVariables false
set_option maxHeartbeats 2000000
open Go.Proofs.Tryz
namespace Go.Proofs.YtaemofgeciklkaaGreat
open Go.RowKit
theorem Lp {a b c:Int} (h:a*c<b*c) (hc:0<c):a<b:=Int.lt_of_mul_lt_mul_right h ω
theorem Xo (U L1 Y Y1 Y0 a b:Int) (hY:Y=Y1*4294967296+Y0) (cN:a*Y1+b=U) :
  a*Y-(U*4294967296+L1)=a*Y0-(4294967296*b+L1):=by
 subst hY cN;rw [Int.mul_add,qaC,<-Int.mul_assoc];omega
theorem Lq (U L1 Y Q:Int) (hY:0<Y) (hU:U<Y) (hL:L1<4294967296) (hQ:Q*Y<=U*4294967296+L1):Q<4294967296:=by refine Lp (c:=Y) ?_ hY;omega
theorem Lr (U L1 Y Y1 Y0 a b Q:Int) (hY:Y=Y1*4294967296+Y0) (fZ:0<Y) (cN:a*Y1+b=U) (hU:U<Y) (hL:L1<4294967296) (hQ:Q*Y<=U*4294967296+L1)
  (hc:4294967296<=a\/4294967296*b+L1<a*Y0):Q<=a-1:=by
 rcases hc with hc | hc
 ·have:=Lq U L1 Y Q fZ hU hL hQ;omega
 ·have h:=Xo U L1 Y Y1 Y0 a b hY cN
  have:Q<a:=Lp (c:=Y) ω fZ
  omega
theorem Ej (U L1 Y Y1 Y0 a b Q:Int) (hY:Y=Y1*4294967296+Y0) (fZ:0<Y) (cN:a*Y1+b=U) (hQ:U*4294967296+L1<Q*Y+Y) (ha:Q<=a)
  (hc:a*Y0<=4294967296*b+L1):a=Q:=by
 have h:=Xo U L1 Y Y1 Y0 a b hY cN;have:a<Q+1:=Lp (c:=Y) (by rw [qaC];omega) fZ
 omega
theorem Ls (U L1 Y Y1 Y0 a b Q:Int) (hY:Y=Y1*4294967296+Y0) (fZ:0<Y) (Lt:0<=Y0) (h01:Y0<4294967296) (hL:0<=L1) (cN:a*Y1+b=U) (hQ:U*4294967296+L1<Q*Y+Y) (ha:Q<=a) (Xp:0<=a) (sX:a<=4294967296) (hb:4294967296<=b):a=Q:=by refine Ej U L1 Y Y1 Y0 a b Q hY fZ cN hQ ha ?_;have:a*Y0<=4294967296*Y0:=qae sX Lt;omega
theorem Xq (U L1 Y Y1 Y0 Q:Int) (hY:Y=Y1*4294967296+Y0) (Ek:2147483648<=Y1) (Lt:0<=Y0) (h01:Y0<4294967296) (hL:L1<4294967296) (uG:0<=U) (hU:U<Y) (hQ0:0<=Q) (hQ:Q*Y<=U*4294967296+L1) :
  Q<=U/Y1/\U/Y1<=4294967297/\0<=U/Y1/\U/Y1*Y1+U%Y1=U/\0<=U%Y1/\U%Y1<Y1:=by
 have e:U/Y1*Y1+U%Y1=U:=by rw [qaa];exact qaP U Y1
 have m0:=qaN U (b:=Y1) ω;have m1:=qaO U (b:=Y1) ω;have q0:0<=U/Y1:=qaY uG ω;refine ⟨?_,?_,q0,e,m0,m1⟩
 ·refine Int.le_ediv_of_mul_le ω ?_
  subst hY;rw [Int.mul_add,<-Int.mul_assoc] at hQ;have:=qas hQ0 Lt;omega
 ·have:U/Y1<4294967298:=Int.ediv_lt_of_lt_mul ω ω
  omega
theorem Xr (U L1 Y Q:Int) (uG:0<=U) (En:0<=L1) (hY:0<Y) (hY':Y<18446744073709551616) (hQ:Q=(U*4294967296+L1)/Y) :
  IntKind.u64.wrap (IntKind.u64.wrap (IntKind.u64.wrap (U*4294967296)+L1)-IntKind.u64.wrap (Q*Y))=(U*4294967296+L1)%Y:=by
 have e:Q*Y+(U*4294967296+L1)%Y=U*4294967296+L1:=by rw [hQ,qaa];exact qaP _ Y
 have m0:=qaN (U*4294967296+L1) (b:=Y) ω;have m1:=qaO (U*4294967296+L1) (b:=Y) ω;simp only [qao];generalize (U*4294967296+L1)%Y=r at *;generalize Q*Y=p at *;omega
theorem Xs (U Y1:Int) (uG:0<=U) (hU:U<18446744073709551616) (Ek:0<Y1) (agD:Y1<18446744073709551616) :
  IntKind.u64.wrap (U-IntKind.u64.wrap (U/Y1*Y1))=U%Y1:=by
 have e:U/Y1*Y1+U%Y1=U:=by rw [qaa];exact qaP U Y1
 have m0:=qaN U (b:=Y1) ω;have m1:=qaO U (b:=Y1) ω;simp only [qao];generalize U%Y1=r at *;generalize U/Y1*Y1=p at *;omega
theorem qz (a Y0:Int) (ha:0<=a) (sX:a<4294967296) (hY:0<=Y0) (hY':Y0<4294967296):IntKind.u64.wrap (a*Y0)=a*Y0:=by have h0:=qas ha hY;have h1:a*Y0<=4294967296*Y0:=qae ω hY;rw [qao];generalize a*Y0=p at *;omega
theorem agE (Y N U L1 L0 Q1 R1 Q0 R0:Int) (hY:0<Y) (hN:N=(U*4294967296+L1)*4294967296+L0)
  (h1:Q1=(U*4294967296+L1)/Y) (h2:R1=(U*4294967296+L1)%Y) (h3:Q0=(R1*4294967296+L0)/Y) (h4:R0=(R1*4294967296+L0)%Y) :
  Q1*4294967296+Q0=N/Y/\R0=N%Y:=by
 have e1:Q1*Y+R1=U*4294967296+L1:=by rw [h1,h2,qaa];exact qaP _ Y
 have e2:Q0*Y+R0=R1*4294967296+L0:=by rw [h3,h4,qaa];exact qaP _ Y
 have m0:0<=R0:=by rw [h4];exact qaN _ ω
 have m1:R0<Y:=by rw [h4];exact qaO _ hY
 have e:N=R0+(Q1*4294967296+Q0)*Y:=by rw [hN,<-e1,qaC,qaC,qaG,qaa Y 4294967296,<-Int.mul_assoc];omega
 constructor
 ·rw [e,qbf _ _ ω,qbl m0 m1];omega
 ·rw [e,Int.add_mul_emod_self_right];exact (Int.emod_eq_of_lt m0 m1).symm
theorem agF (f:Nat):Lib.bitLenAux f 0=0:=by cases f<;>simp [Lib.bitLenAux]
theorem agG:∀ f x:Nat,x<2^f->x<2^Lib.bitLenAux f x/\(x≠0->2^(Lib.bitLenAux f x-1)<=x/\1<=Lib.bitLenAux f x):=by
 intro f;induction f with
 | zero=>intro x hx;simp at hx;subst hx;simp [Lib.bitLenAux]
 | succ f ih =>
  intro x hx;by_cases h0:x=0
  ·subst h0;simp [Lib.bitLenAux]
  ·have h2:x/2<2^f:=(by rw [Nat.pow_succ] at hx;omega);obtain ⟨i1,i2⟩:=ih (x/2) h2;simp only [Lib.bitLenAux,h0,if_false];by_cases h1:x/2=0
   ·rw [h1,agF];simp;omega
   ·generalize Lib.bitLenAux f (x/2)=k at *
    obtain ⟨j1,j2⟩:=i2 h1;refine ⟨?_,fun _=>⟨?_,ω⟩⟩
    ·rw [show 1+k=k+1 by omega,Nat.pow_succ];omega
    ·rw [show 1+k-1=(k-1)+1 by omega,Nat.pow_succ];omega
theorem lead (y:Int) (y0:0<y) (y1:y<18446744073709551616) :
  ∃ s:Nat,s<=63/\(64-(Lib.bitLen y.toNat:Int))=(s:Int)/\9223372036854775808<=y*2^s/\y*2^s<18446744073709551616:=by
 obtain ⟨n,rfl⟩:=Int.eq_ofNat_of_zero_le (Int.le_of_lt y0);rw [Int.toNat_natCast];obtain ⟨a1,a2⟩:=agG 64 n ω;obtain ⟨b1,b2⟩:=a2 ω;have hle:Lib.bitLen n<=64:=Lib.bitLen_le n 64 (Yk _) ω;have e:Lib.bitLenAux 64 n=Lib.bitLen n:=rfl;rw [e] at a1 b1 b2;generalize Lib.bitLen n=k at *;have hc:((n*2^(64-k):Nat):Int)=(n:Int)*2^(64-k):=by rw [Int.natCast_mul,Int.natCast_pow];rfl
 refine ⟨64-k,ω,ω,?_,?_⟩
 ·have h:2^(k-1)*2^(64-k)<=n*2^(64-k):=qam _ b1
  rw [<-Nat.pow_add,show k-1+(64-k)=63 by omega] at h
  have h':((2^63:Nat):Int)<=((n*2^(64-k):Nat):Int):=Int.ofNat_le.2 h;rw [hc] at h';omega
 ·have h:n*2^(64-k)<2^k*2^(64-k):=qbq a1 (qaM _)
  rw [<-Nat.pow_add,show k+(64-k)=64 by omega] at h
  have h':((n*2^(64-k):Nat):Int)<((2^64:Nat):Int):=Int.ofNat_lt.2 h;rw [hc] at h';omega
theorem agH (hi lo y:Int) (s:Nat) (hs:s<=63) (h0:0<=hi) (h1:hi<y) (l0:0<=lo) (l1:lo<18446744073709551616) (hY:y*2^s<18446744073709551616) :
  bits .or .u64 (IntKind.u64.wrap (hi*2^s)) (lo/2^(64-s))=hi*2^s+lo/2^(64-s) /\
  (hi*2^s+lo/2^(64-s))*18446744073709551616+IntKind.u64.wrap (lo*2^s)=(hi*18446744073709551616+lo)*2^s /\
  0<=lo/2^(64-s):=by
 have hP:(0:Int)<2^s:=Int.pow_pos γ;have FY:(0:Int)<2^(64-s):=Int.pow_pos γ;have Lu:(2:Int)^(64-s)*2^s=18446744073709551616:=by rw [<-Int.pow_add,show 64-s+s=64 by omega];decide
 have aiB:(2:Int)^s<=18446744073709551616:=by have h1':(1:Int)*2^s<=2^(64-s)*2^s:=qae ω ω;omega
 have hhi:hi*2^s<y*2^s:=Int.mul_lt_mul_of_pos_right h1 hP;have Xt:0<=hi*2^s:=qas h0 ω;have agI:hi*2^s%2^s=0:=Int.mul_emod_left _ _;have d0:0<=lo/2^(64-s):=qaY l0 ω;have d1:lo/2^(64-s)<2^s:=Int.ediv_lt_of_lt_mul FY (by rw [qaa,Lu];exact l1)
 have e:=qaP lo (2^(64-s));have m0:=qaN lo (b:=2^(64-s)) ω;have m1:=qaO lo FY;have ew:IntKind.u64.wrap (hi*2^s)=hi*2^s:=by rw [qao];omega
 refine ⟨?_,?_,d0⟩
 ·rw [ew]
  exact bits_join .u64 64 γ (fun n a b=>by rw [qao];omega) s _ _ Xt agI ω d0 d1 ω
 ·have e2:lo*2^s=lo/2^(64-s)*18446744073709551616+lo%2^(64-s)*2^s:=by
   have:lo*2^s=(2^(64-s)*(lo/2^(64-s))+lo%2^(64-s))*2^s:=by rw [e]
   rw [this,qaC,qaa (2^(64-s)) (lo/2^(64-s)),qaG,Lu]
  have r1:lo%2^(64-s)*2^s<18446744073709551616:=by rw [<-Lu];exact Int.mul_lt_mul_of_pos_right m1 hP
  have r0:0<=lo%2^(64-s)*2^s:=qas m0 ω;rw [qao,e2,qaC,qaC,e2,qaG hi,qaa (2^s) 18446744073709551616,<-Int.mul_assoc];generalize lo%2^(64-s)*2^s=r at *;omega
theorem agJ (x d:Int) (hx:0<=ay x) (d0:0<d) :
  wrap64 (ay x/d)=ay (sv x/d)/\(ay x%d*18446744073709551616+az x)/d=az (sv x/d)/\(ay x%d*18446744073709551616+az x)%d=sv x%d:=by
 have e:=qaP (ay x) d;have m0:=qaN (ay x) (b:=d) ω;have m1:=qaO (ay x) d0;obtain ⟨l0,l1⟩:=sO x;obtain ⟨b1,b2⟩:=Np x;have xS:0<=ay x/d:=qaY hx ω;have es:sv x=(ay x%d*18446744073709551616+az x)+(ay x/d*18446744073709551616)*d:=by
  unfold sv;have:ay x*18446744073709551616=(d*(ay x/d)+ay x%d)*18446744073709551616:=by rw [e]
  rw [this,qaC,qaa d,qaG (ay x/d) d,qaa d 18446744073709551616,<-Int.mul_assoc];omega
 have t0:0<=(ay x%d*18446744073709551616+az x)/d:=qaY ω ω;have t1:(ay x%d*18446744073709551616+az x)/d<18446744073709551616:=Int.ediv_lt_of_lt_mul d0 (by rw [qaa];omega)
 have eq:sv x/d=(ay x%d*18446744073709551616+az x)/d+ay x/d*18446744073709551616:=by rw [es,qbf _ _ ω]
 have er:sv x%d=(ay x%d*18446744073709551616+az x)%d:=by rw [es,Int.add_mul_emod_self_right]
 refine ⟨?_,?_,er.symm⟩
 ·rw [eq];unfold wrap64
  generalize (ay x%d*18446744073709551616+az x)/d=t at *;generalize ay x/d=h at *;unfold ay;omega
 ·rw [eq];unfold az at *
  generalize (ay x%d*18446744073709551616+x%18446744073709551616)/d=t at *;omega
open Go.RowKit Go.Shelf
theorem agK (lo y:Int) (l0:0<=lo) (l1:lo<18446744073709551616) (y0:0<y) (y1:y<18446744073709551616) (w:World) :
  Calls prog 219 #[BY 0,BY lo,BY y] w fun e w'=>e=π #[BY (lo/y),BY (lo%y)]/\∃ n,w'=w.drewN n:=by
 have hy:(y == 0)=false:=by simp;omega
 go_enter func219,ntmps219;go_wp2;go_region
 all_goals
  go_wp2
  go_ret2
  exact ⟨rfl,1,rfl⟩
theorem agL (hi lo y Y U L Y1 Y0 L1 L0 Q1 R1 Q0 R0:Int) (h0:0<hi) (h1:hi<y) (s:Nat) (hs:s<=63)
  (eY:IntKind.u64.wrap (y*2^s)=Y) (eU:bits .or .u64 (IntKind.u64.wrap (hi*2^s)) (lo/2^(64-s))=U) (eL:IntKind.u64.wrap (lo*2^s)=L)
  (eY1:Y/4294967296=Y1) (eY0:bits .and .u64 Y 4294967295=Y0) (eL1:L/4294967296=L1) (eL0:bits .and .u64 L 4294967295=L0)
  (uG:0<=U) (Lv:U<Y) (Ek:2147483648<=Y1) (agD:Y1<4294967296) (fZ:0<=Y0) (kN:Y0<4294967296)
  (Xu:0<=L1) (Lw:L1<4294967296) (En:0<=L0) (Eo:L0<4294967296)
  (HY:ag (Y=Y1*4294967296+Y0)) (Lx:ag (Q1=(U*4294967296+L1)/Y)) (Ep:ag (R1=(U*4294967296+L1)%Y)) (Ly:ag (Q0=(R1*4294967296+L0)/Y)) (Er:ag (R0=(R1*4294967296+L0)%Y))
  (lz:ag (∀ w:World,Calls prog 195 #[BY y] w fun e w'=>e=χ (By (s:Int))/\w'=w)) (w:World) :
  Calls prog 219 #[BY hi,BY lo,BY y] w fun e w'=>e=π #[BY (Q1*4294967296+Q0),BY (R0/2^s)]/\w'=w:=by
 have hy:(y == 0)=false:=by simp;omega
 have hh:(hi == 0)=false:=by simp;omega
 have hz:¬ Y1=0:=ω;have jP:0<Y:=by have:=HY.o;omega
 have Xv:Y<18446744073709551616:=by have:=HY.o;omega
 have hUm:U<18446744073709551616:=ω;have r0:0<=R1:=by rw [Ep.o];exact qaN _ ω
 have r1:R1<Y:=by rw [Ep.o];exact qaO _ jP
 have vK:0<=R0:=by rw [Er.o];exact qaN _ ω
 have Bm:R0<Y:=by rw [Er.o];exact qaO _ jP
 have hRm:R1<18446744073709551616:=ω;have d1:ag (Q1*Y+R1=U*4294967296+L1):=by show _=_;rw [Lx.o,Ep.o,qaa];exact qaP _ Y
 have d0:ag (Q0*Y+R0=R1*4294967296+L0):=by show _=_;rw [Ly.o,Er.o,qaa];exact qaP _ Y
 have q1n:0<=Q1:=by rw [Lx.o];exact qaY ω ω
 have q0n:0<=Q0:=by rw [Ly.o];exact qaY ω ω
 have q1t:Q1<4294967296:=Lq U L1 Y Q1 jP Lv Lw (by have:=d1.o;omega)
 have q0t:Q0<4294967296:=Lq R1 L0 Y Q0 jP r1 Eo (by have:=d0.o;omega)
 have Xw:=Xq U L1 Y Y1 Y0 Q1 HY.o Ek fZ kN Lw uG Lv q1n (by have:=d1.o;omega)
 have Xx:=Xq R1 L0 Y Y1 Y0 Q0 HY.o Ek fZ kN Eo r0 r1 q0n (by have:=d0.o;omega)
 have eb1:IntKind.u64.wrap (U-IntKind.u64.wrap (U/Y1*Y1))=U%Y1:=Xs U Y1 uG hUm ω ω;have Lz:IntKind.u64.wrap (R1-IntKind.u64.wrap (R1/Y1*Y1))=R1%Y1:=Xs R1 Y1 r0 hRm ω ω;have eR1:IntKind.u64.wrap (IntKind.u64.wrap (IntKind.u64.wrap (U*4294967296)+L1)-IntKind.u64.wrap (Q1*Y))=R1:=by rw [Ep.o];exact Xr U L1 Y Q1 uG Xu jP Xv Lx.o
 have eR0:IntKind.u64.wrap (IntKind.u64.wrap (IntKind.u64.wrap (R1*4294967296)+L0)-IntKind.u64.wrap (Q0*Y))=R0:=by rw [Er.o];exact Xr R1 L0 Y Q0 r0 En jP Xv Ly.o
 have S1:ag _:=Xw;clear Xw;have S0:ag _:=Xx;clear Xx;go_enter func219,ntmps219;go_wp2_with (go_at_call 195;refine (lz.o _).mono ?_;rintro e w' ⟨rfl,rfl⟩);go_loop [15,16] (fun q r=>∃ a b:Int,q=BY a/\r=BY b/\Q1<=a/\a<=4294967297/\0<=b/\b<4294967296/\ag (a*Y1+b=U)) (fun q _=>(intOf q).toNat)
 case atStart=>exact ⟨U/Y1,U%Y1,rfl,rfl,S1.o.1,S1.o.2.1,S1.o.2.2.2.2.1,by have:=S1.o.2.2.2.2.2;omega,S1.o.2.2.2.1⟩
 case round =>
  obtain ⟨a,b,rfl,rfl,ha,sX,hb,eQ,HA⟩:=hrel;by_cases g1:4294967296<=a\/4294967296*b+L1<a*Y0
  ·have g2:Q1<=a-1:=Lr U L1 Y Y1 Y0 a b Q1 HY.o jP HA.o Lv Lw (by have:=d1.o;omega) g1
   have g3:ag ((a-1)*Y1+(b+Y1)=U):=(by show _=_;have:=HA.o;rw [Int.sub_mul];omega);have g4:1<=a:=ω;by_cases g5:b+Y1<4294967296
   ·have fin:∀ x y:Int,x=a-1->y=b+Y1->(∃ kO kP:Int,Value.int IntKind.u64 x=BY kO/\Value.int IntKind.u64 y=BY kP/\Q1<=kO/\kO<=4294967297/\0<=kP/\kP<4294967296/\ag (kO*Y1+kP=U)):=(by rintro x y rfl rfl;exact ⟨a-1,b+Y1,rfl,rfl,g2,ω,ω,g5,g3⟩);by_cases g6:4294967296<=a
    ·go_wp2
     exact ⟨fin _ _ rfl rfl,by simp [intOf];omega⟩
    ·have e1:=qz a Y0 ω ω fZ kN
     have g7:4294967296*b+L1<a*Y0:=ω;go_wp2;exact ⟨fin _ _ rfl rfl,by simp [intOf];omega⟩
   ·have e2:a-1=Q1:=Ls U L1 Y Y1 Y0 (a-1) (b+Y1) Q1 HY.o jP fZ kN Xu g3.o (by have:=d1.o;omega) g2 ω ω ω
    by_cases g6:4294967296<=a
    rotate_left
    have e1:=qz a Y0 ω ω fZ kN;have g7:4294967296*b+L1<a*Y0:=ω
    rotate_left
    all_goals
     go_wp2
     clear e2 g1 g2 g3 g4 g5 g6 ha sX hb eQ HA;go_loop [18,16] (fun q r=>∃ aa bb:Int,q=BY aa/\r=BY bb/\Q0<=aa/\aa<=4294967297/\0<=bb/\bb<4294967296/\ag (aa*Y1+bb=R1)) (fun q _=>(intOf q).toNat)
     case atStart=>exact ⟨R1/Y1,R1%Y1,rfl,rfl,S0.o.1,S0.o.2.1,S0.o.2.2.2.2.1,by have:=S0.o.2.2.2.2.2;omega,S0.o.2.2.2.1⟩
     case round =>
      obtain ⟨aa,bb,rfl,rfl,LC,agM,ihb,agN,uH⟩:=hrel;by_cases LF:4294967296<=aa\/4294967296*bb+L0<aa*Y0
      ·have z8:Q0<=aa-1:=Lr R1 L0 Y Y1 Y0 aa bb Q0 HY.o jP uH.o r1 Eo (by have:=d0.o;omega) LF
       have Aa:ag ((aa-1)*Y1+(bb+Y1)=R1):=(by show _=_;have:=uH.o;rw [Int.sub_mul];omega);have ig4:1<=aa:=ω;by_cases LG:bb+Y1<4294967296
       ·have Ab:∀ x z:Int,x=aa-1->z=bb+Y1->(∃ kO kP:Int,Value.int IntKind.u64 x=BY kO/\Value.int IntKind.u64 z=BY kP/\Q0<=kO/\kO<=4294967297/\0<=kP/\kP<4294967296/\ag (kO*Y1+kP=R1)):=(by rintro x z rfl rfl;exact ⟨aa-1,bb+Y1,rfl,rfl,z8,ω,ω,LG,Aa⟩);by_cases Ac:4294967296<=aa
        ·go_wp2
         exact ⟨Ab _ _ rfl rfl,by simp [intOf];omega⟩
        ·have Ad:=qz aa Y0 ω ω fZ kN
         have uI:4294967296*bb+L0<aa*Y0:=ω;go_wp2;exact ⟨Ab _ _ rfl rfl,by simp [intOf];omega⟩
       ·have ie2:aa-1=Q0:=Ls R1 L0 Y Y1 Y0 (aa-1) (bb+Y1) Q0 HY.o jP fZ kN En Aa.o (by have:=d0.o;omega) z8 ω ω ω
        by_cases Ac:4294967296<=aa
        ·go_wp2
         go_ret2
         exact ⟨rfl,rfl⟩
        ·have Ad:=qz aa Y0 ω ω fZ kN
         have uI:4294967296*bb+L0<aa*Y0:=ω;go_wp2;go_ret2;exact ⟨rfl,rfl⟩
      ·have Ac:¬ 4294967296<=aa:=(by omega);have uI:aa*Y0<=4294967296*bb+L0:=ω;have Ad:=qz aa Y0 ω ω fZ kN;obtain rfl:aa=Q0:=Ej R1 L0 Y Y1 Y0 aa bb Q0 HY.o jP uH.o (by have:=d0.o;omega) LC uI
       go_wp2
       go_ret2
       exact ⟨rfl,rfl⟩
  ·have g6:¬ 4294967296<=a:=(by omega);have g7:a*Y0<=4294967296*b+L1:=ω;have e1:=qz a Y0 ω ω fZ kN;obtain rfl:a=Q1:=Ej U L1 Y Y1 Y0 a b Q1 HY.o jP HA.o (by have:=d1.o;omega) ha g7
   go_wp2
   clear g1 g6 g7 e1 ha sX hb eQ HA;go_loop [18,16] (fun q r=>∃ aa bb:Int,q=BY aa/\r=BY bb/\Q0<=aa/\aa<=4294967297/\0<=bb/\bb<4294967296/\ag (aa*Y1+bb=R1)) (fun q _=>(intOf q).toNat)
   case atStart=>exact ⟨R1/Y1,R1%Y1,rfl,rfl,S0.o.1,S0.o.2.1,S0.o.2.2.2.2.1,by have:=S0.o.2.2.2.2.2;omega,S0.o.2.2.2.1⟩
   case round =>
    obtain ⟨aa,bb,rfl,rfl,LC,agM,ihb,agN,uH⟩:=hrel;by_cases LF:4294967296<=aa\/4294967296*bb+L0<aa*Y0
    ·have z8:Q0<=aa-1:=Lr R1 L0 Y Y1 Y0 aa bb Q0 HY.o jP uH.o r1 Eo (by have:=d0.o;omega) LF
     have Aa:ag ((aa-1)*Y1+(bb+Y1)=R1):=(by show _=_;have:=uH.o;rw [Int.sub_mul];omega);have ig4:1<=aa:=ω;by_cases LG:bb+Y1<4294967296
     ·have Ab:∀ x z:Int,x=aa-1->z=bb+Y1->(∃ kO kP:Int,Value.int IntKind.u64 x=BY kO/\Value.int IntKind.u64 z=BY kP/\Q0<=kO/\kO<=4294967297/\0<=kP/\kP<4294967296/\ag (kO*Y1+kP=R1)):=(by rintro x z rfl rfl;exact ⟨aa-1,bb+Y1,rfl,rfl,z8,ω,ω,LG,Aa⟩);by_cases Ac:4294967296<=aa
      ·go_wp2
       exact ⟨Ab _ _ rfl rfl,by simp [intOf];omega⟩
      ·have Ad:=qz aa Y0 ω ω fZ kN
       have uI:4294967296*bb+L0<aa*Y0:=ω;go_wp2;exact ⟨Ab _ _ rfl rfl,by simp [intOf];omega⟩
     ·have ie2:aa-1=Q0:=Ls R1 L0 Y Y1 Y0 (aa-1) (bb+Y1) Q0 HY.o jP fZ kN En Aa.o (by have:=d0.o;omega) z8 ω ω ω
      by_cases Ac:4294967296<=aa
      ·go_wp2
       go_ret2
       exact ⟨rfl,rfl⟩
      ·have Ad:=qz aa Y0 ω ω fZ kN
       have uI:4294967296*bb+L0<aa*Y0:=ω;go_wp2;go_ret2;exact ⟨rfl,rfl⟩
    ·have Ac:¬ 4294967296<=aa:=(by omega);have uI:aa*Y0<=4294967296*bb+L0:=ω;have Ad:=qz aa Y0 ω ω fZ kN;obtain rfl:aa=Q0:=Ej R1 L0 Y Y1 Y0 aa bb Q0 HY.o jP uH.o (by have:=d0.o;omega) LC uI
     go_wp2
     go_ret2
     exact ⟨rfl,rfl⟩
theorem LR (hi lo y:Int) (h0:0<=hi) (h1:hi<y) (l0:0<=lo) (l1:lo<18446744073709551616) (y1:y<18446744073709551616) (w:World) :
  Calls prog 219 #[BY hi,BY lo,BY y] w fun e w'=>e=π #[BY ((hi*18446744073709551616+lo)/y),BY ((hi*18446744073709551616+lo)%y)]/\∃ n,w'=w.drewN n:=by
 by_cases hz:hi=0
 ·subst hz
  simpa using agK lo y l0 l1 ω y1 w
 ·obtain ⟨s,hs,es,s1,s2⟩:=lead y ω y1
  obtain ⟨m1,m2,m3⟩:=agH hi lo y s hs h0 h1 l0 l1 s2;have hP:(0:Int)<2^s:=Int.pow_pos γ;have eY:IntKind.u64.wrap (y*2^s)=y*2^s:=by rw [qao];omega
  have Xt:0<=hi*2^s:=qas h0 ω;obtain ⟨w0,w1⟩:=Ax (lo*2^s);have lz:ag (∀ w:World,Calls prog 195 #[BY y] w fun e w'=>e=χ (By (s:Int))/\w'=w):=fun w=>by
   have:=Tryz.bits_LeadingZeros64 y w ω ω
   rw [es] at this;exact this
  have hN:(hi*18446744073709551616+lo)*2^s<y*2^s*18446744073709551616:=by have a1:(hi*18446744073709551616+lo)*2^s<(y*18446744073709551616)*2^s:=Int.mul_lt_mul_of_pos_right ω hP;rw [qaG,qaa 18446744073709551616 (2^s),<-Int.mul_assoc] at a1;exact a1
  generalize hY:y*2^s=Y at *;generalize hL:IntKind.u64.wrap (lo*2^s)=L at *;generalize hU:hi*2^s+lo/2^(64-s)=U at *;have hUY:U<Y:=ω;have core:=agL hi lo y Y U L (Y/4294967296) (Y%4294967296) (L/4294967296) (L%4294967296)
   ((U*4294967296+L/4294967296)/Y) ((U*4294967296+L/4294967296)%Y)
   (((U*4294967296+L/4294967296)%Y*4294967296+L%4294967296)/Y) (((U*4294967296+L/4294967296)%Y*4294967296+L%4294967296)%Y)
   ω h1 s hs (by rw [hY];exact eY) m1 hL rfl (and_low32 Y ω ω) rfl (and_low32 L ω ω)
   ω hUY ω ω ω ω ω ω ω ω (show _=_ by omega) rfl rfl rfl rfl lz w
  have fin:=agE Y ((hi*18446744073709551616+lo)*2^s) U (L/4294967296) (L%4294967296) _ _ _ _ ω ω rfl rfl rfl rfl;rw [fin.1,fin.2,<-hY,Int.mul_ediv_mul_of_pos_left _ _ hP,qaa _ (2^s),qaa y,Int.mul_emod_mul_of_pos _ _ hP,Int.mul_ediv_cancel_left _ ω] at core;exact core.mono fun e w' h=>⟨h.1,0,h.2⟩
end Go.Proofs.YtaemofgeciklkaaGreat
namespace Go.Proofs.YtaemofgeciklkaaGreat
open Go.RowKit Go.Shelf
theorem agO (x d:Int) (hx:0<=ay x) (d0:0<d) (d1:d<18446744073709551616) (w:World) :
  Calls prog 241 #[.agg #[By (ay (x)),BY (az (x))],BY d] w fun e w'=>e=χ (.tuple #[.agg #[By (ay (sv x/d)),BY (az (sv x/d))],BY (sv x%d)])/\Gk 2 w w':=by
 obtain ⟨a1,a2⟩:=sO x;obtain ⟨b1,b2⟩:=Np x;have hd:¬ d=0:=ω;have m0:=qaN (ay x) (b:=d) ω;have m1:=qaO (ay x) d0;go_enter func241,ntmps241;go_wp2;go_quiet ((go_at_call 219;exact Calls.quiet_of (LR _ _ _ m0 m1 a1 a2 d1 _)));go_wp2;obtain ⟨k1,k2,k3⟩:=agJ x d hx d0;refine bodyPost_ret (v:=.tuple #[.agg #[By (ay (sv x/d)),BY (az (sv x/d))],BY (sv x%d)]) (by simp [results,results241,go_sem,k1,k2,k3]) rfl ⟨rfl,?_,by simp [World.setCell]⟩
 exact (((((Gb.refl _).alloc _ _).alloc _ _).drewN nq).setCell ε _).setCell ε _
theorem div_zero (x:Int) (w:World) :
  Calls prog 231 #[.agg #[By (ay (x)),BY (az (x))],BY 0] w fun e w'=>e=χ (.tuple #[.agg #[By 0,BY 0],BY 0,By 10])/\Gk 2 w w':=by
 go_enter func231,ntmps231;go_wp2;refine bodyPost_ret (v:=.tuple #[.agg #[By 0,BY 0],BY 0,By 10]) (by simp [results,results231,go_sem]) rfl ⟨rfl,?_,ε⟩
 exact (((Gb.refl _).alloc _ _).alloc _ _)
attribute [local go_sem] frozen?_alloc_cells fL
theorem div_pos (x d:Int) (hx:0<=ay x) (d0:0<d) (d1:d<18446744073709551616) (w:World) :
  Calls prog 231 #[.agg #[By (ay (x)),BY (az (x))],BY d] w fun e w'=>e=χ (.tuple #[.agg #[By (ay (sv x/d)),BY (az (sv x/d))],BY (sv x%d),By 0])/\Gk 5 w w':=by
 have hd:(d == 0)=false:=by simp;omega
 go_enter func231,ntmps231;go_wp2_with (go_at_call 241;refine (agO x d hx d0 d1 _).mono ?_;rintro e w' ⟨rfl,hg⟩;obtain ⟨hc,hf,hz⟩:=hg.facts);refine bodyPost_ret (v:=.tuple #[.agg #[By (ay (sv x/d)),BY (az (sv x/d))],BY (sv x%d),By 0]) (by simp [results,results231,go_sem,hc,hz]) rfl ⟨rfl,?_,by simp [World.setCell,hz]⟩
 exact ((((((Gb.refl _).alloc _ _).alloc _ _).trans hg.gb).setCell ε _).setCell ε _).alloc _ _
theorem agP (n:Int) (h0:-9223372036854775808<=n) (h1:n<9223372036854775808) (w:World) :
  Calls prog 234 #[By n] w fun e w'=>e=χ (.agg #[By (ay (n)),BY (az (n))])/\Gk 1 w w':=by
 have e1:n/9223372036854775808=ay n:=by unfold ay;omega
 have e2:IntKind.u64.wrap n=az n:=by unfold az;rw [qao]
 go_enter func234,ntmps234;go_wp2;refine bodyPost_ret (v:=.agg #[By (ay (n)),BY (az (n))]) (by simp [results,results234,go_sem]) rfl ⟨rfl,(Gb.refl _).alloc _ _,ε⟩
