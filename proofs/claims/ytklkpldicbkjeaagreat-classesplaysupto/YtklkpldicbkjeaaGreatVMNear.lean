/- The document's Near, bit by bit: it ends with the nearest float. -/
import Derived.Test.YtklkpldicbkjeaaGreatVPFg
set_option linter.unusedVariables false
set_option maxHeartbeats 8000000
set_option maxRecDepth 20000
open Go.Proofs.Tryz
namespace Go.Proofs.YtklkpldicbkjeaaGreat
open Go.RowKit
theorem K5 (r den:Nat) (h:r<den) (hd:den<18446744073709551616) (w:World) :
  Calls prog 128 #[.int .u64 r,.int .u64 den] w fun e w'=>e=.returned (.tuple #[.int .u64 ((2*r%den:Nat):Int),.bool (decide (den<=2*r))])/\w'=w:=by
 by_cases c:den<=2*r
 ·rw [decide_eq_true c,show 2*r%den=2*r-den by rw [Nat.mod_eq_sub_mod c,Nat.mod_eq_of_lt (by omega)]]
  have e1:((2*r-den:Nat):Int)=(r:Int)-(den-r):=by omega
  rw [e1];go_enter func128,ntmps128;go_wp2;go_ret2;exact ⟨rfl,rfl⟩
 ·rw [decide_eq_false c,Nat.mod_eq_of_lt (by omega)]
  have e1:((2*r:Nat):Int)=2*(r:Int):=by omega
  rw [e1];go_enter func128,ntmps128;go_wp2;go_ret2;exact ⟨rfl,rfl⟩
theorem YR (den:Nat) (hd:0<den) (w:World) :
  Calls prog 108 #[.int .u64 0,.int .u64 den] w fun e w'=>e=.returned (.tuple #[.float .f64 0,.int .i64 0])/\w'=w:=by
 have h1:((den:Int) == 0)=false:=by simp;omega
 go_enter func108,ntmps108;go_wp2;go_ret2;exact ⟨rfl,rfl⟩
theorem qD (m:Nat) (h0:4503599627370496<=m) (h1:m<=9007199254740992):floatOfInt .f64 (m:Int)=1074*4503599627370496+m:=by
 obtain ⟨j,hj,eU⟩:=kQ;have hv:V (1074*4503599627370496+m)=m*Un:=by
  rw [<-hj,iQ j m h1 (.inl h0),eU]
 rw [Kr (m:Int) (1074*4503599627370496+m) (by omega) (by rw [Int.natAbs_natCast];exact hv),show decide ((m:Int)<0)=false from decide_eq_false (by omega),Cr]
theorem YS {c:Nat} (h0:4200000000000000000<=c) (h1:c<6000000000000000000):Ieee.double.mul c 4611686018427387904=some (c+4503599627370496):=by
 rw [XW (by omega)];unfold qu;rw [if_neg (by omega)]
theorem YU (A D:Nat) (hD:0<D):2*A/D=2*(A/D)+(if D<=2*(A%D) then 1 else 0)/\2*A%D=2*(A%D)%D:=by
 have hd:=Nat.div_add_mod A D;have hm:=Nat.mod_lt A hD;generalize A/D=q at *;generalize A%D=r at *;have e:2*A=2*r+D*(2*q):=by rw [<-hd,Nat.mul_add,Nat.mul_left_comm];omega
 rw [e,Nat.add_mul_div_left _ _ hD,Nat.add_mul_mod_self_left];refine ⟨?_,rfl⟩;split
 ·rename_i c
  rw [show 2*r/D=1 from Nat.div_eq_of_lt_le (by omega) (by omega)];omega
 ·rw [Nat.div_eq_of_lt (by omega)];omega
theorem YW (A D j:Nat) (hD:0<D) :
  fD A (D*2^(j+1))=A/D/2^j/2+(if A/D/2^j%2=1/\(A/D%2^j≠0\/A%D≠0\/A/D/2^j/2%2=1) then 1 else 0):=by
 have hm:=Nat.mod_lt A hD;have hP:=Nat.two_pow_pos j;unfold fD;have q1:A/(D*2^(j+1))=A/D/2^j/2:=by rw [Nat.pow_succ,<-Nat.div_div_eq_div_mul,<-Nat.div_div_eq_div_mul]
 have q2:A%(D*2^(j+1))=D*(A/D%2^(j+1))+A%D:=by rw [Nat.mod_mul];omega
 have q3:A/D%2^(j+1)=A/D%2^j+2^j*(A/D/2^j%2):=by rw [Nat.pow_succ,Nat.mod_mul]
 have q4:D*2^(j+1)=2*(D*2^j):=by rw [Nat.pow_succ,<-Nat.mul_assoc];omega
 rw [q1,q2,q3,q4,show D*(A/D%2^j+2^j*(A/D/2^j%2))=D*(A/D%2^j)+D*2^j*(A/D/2^j%2) by rw [Nat.mul_add,Nat.mul_assoc]]
 clear q1 q2 q3 q4;have hs:=Nat.mod_lt (A/D) hP;generalize A/D/2^j=M at *;generalize A/D%2^j=s at *;generalize A%D=r at *;have d1:D*s+D<=D*2^j:=by
  have:=Nat.mul_le_mul_left D (show s+1<=2^j by omega)
  rw [Nat.mul_add,Nat.mul_one] at this;exact this
 have d2:D*s=0↔s=0:=by
  constructor
  ·intro h;rcases Nat.mul_eq_zero.1 h with h | h<;>omega
  ·intro h;rw [h,Nat.mul_zero]
 generalize D*2^j=K at *;generalize D*s=T at *;congr 1;rcases Nat.mod_two_eq_zero_or_one M with h | h
 ·rw [h,Nat.mul_zero,Nat.add_zero,if_neg (by omega),decide_eq_false (by omega),show (2*K == 2*(T+r))=false by rw [beq_eq_false_iff_ne];omega]
  rfl
 ·rw [h,Nat.mul_one]
  by_cases c:s≠0\/r≠0
  ·rw [decide_eq_true (by omega),if_pos ⟨rfl,by omega⟩];rfl
  ·rw [decide_eq_false (by omega),show (2*K == 2*(T+K+r))=true by rw [beq_iff_eq];omega]
   by_cases o:M/2%2=1
   ·rw [if_pos ⟨rfl,.inr (.inr o)⟩,o];rfl
   ·rw [if_neg (by omega),show (M/2%2 == 1)=false by rw [beq_eq_false_iff_ne];exact o];rfl
theorem YX (num den k j:Nat) (b0:Nat) (h:Nr (num*Un) den b0) (d0:0<den) (hk:k<=200) (K7:9007199254740992<=num*2^k/den/2^j) (La:num*2^k/den/2^j<18014398509481984) (c m:Nat)
  (hm:m=num*2^k/den/2^j/2+(if num*2^k/den/2^j%2=1/\(num*2^k/den%2^j≠0\/num*2^k%den≠0\/num*2^k/den/2^j/2%2=1) then 1 else 0))
  (hc:(c:Int)=(1074+((j:Int)-k+1))*4503599627370496+m):c=b0:=by
 have hP:=Nat.two_pow_pos (j+1);have hg:0<den*2^(j+1):=Nat.mul_pos d0 hP;have q1:num*2^k/(den*2^(j+1))=num*2^k/den/2^j/2:=by rw [Nat.pow_succ,<-Nat.div_div_eq_div_mul,<-Nat.div_div_eq_div_mul]
 rw [<-YW _ _ _ d0] at hm;obtain ⟨e,he⟩:∃ e:Nat,(e:Int)=1074+((j:Int)-k+1):=⟨(1074+((j:Int)-k+1)).toNat,by omega⟩
 have nr:=Nr.of_rne (num*2^k) (den*2^(j+1)) e hg (by rw [q1];clear hm hc h;omega) (.inl (by rw [q1];clear hm hc h;omega))
 have ec:c=e*4503599627370496+m:=by rw [<-he] at hc;clear hm h nr K7 La q1;omega
 rw [<-hm,<-ec] at nr;refine (nr.scale hg d0 ?_).uniq h d0;obtain ⟨u,hu,eU⟩:=kQ;rw [eU];have e1:num*2^k*2^e*den=num*den*2^(k+e):=by rw [Nat.pow_add];ac_rfl
 have e2:num*2^u*(den*2^(j+1))=num*den*2^(u+(j+1)):=by rw [Nat.pow_add 2 u];ac_rfl
 rw [e1,e2,show k+e=u+(j+1) by clear eU hm h nr K7 La q1;omega]
theorem YY (num den b0:Nat) (hn:num<18446744073709551616) (hd:den<18446744073709551616) (n0:0<num) (d0:0<den) (hb:Nr (num*Un) den b0) (w:World) :
  Calls prog 108 #[.int .u64 num,.int .u64 den] w fun e w'=>e=.returned (.tuple #[.float .f64 b0,.int .i64 0])/\w'=w:=by
 have h1:((den:Int) == 0)=false:=by simp;omega
 have h2:((num:Int) == 0)=false:=by simp;omega
 have aJ:ag (∀ k j c m':Nat,k<=200->9007199254740992<=num*2^k/den/2^j->num*2^k/den/2^j<18014398509481984 ->
   m'=num*2^k/den/2^j/2+(if num*2^k/den/2^j%2=1/\(num*2^k/den%2^j≠0\/num*2^k%den≠0\/num*2^k/den/2^j/2%2=1) then 1 else 0) ->
   (c:Int)=(1074+((j:Int)-k+1))*4503599627370496+m'->c=b0):=fun k j c m' a1 a2 a3 a4 a5=>YX num den k j b0 hb d0 a1 a2 a3 c m' a4 a5
 clear hb;obtain ⟨q0,qE⟩:∃ q0:Nat,q0=num/den:=⟨_,rfl⟩;obtain ⟨r0,yO⟩:∃ r0:Nat,r0=num%den:=⟨_,rfl⟩;have YZ:(num:Int)/den=(q0:Int):=by rw [qE];exact (Int.natCast_ediv _ _).symm
 have Lb:(num:Int)%den=(r0:Int):=by rw [yO];exact (Int.natCast_emod _ _).symm
 have Y2:q0<18446744073709551616:=by rw [qE];exact Nat.lt_of_le_of_lt (Nat.div_le_self _ _) hn
 have Y3:r0<den:=by rw [yO];exact Nat.mod_lt _ d0
 have E0:ag (q0=num*2^0/den/\r0=num*2^0%den):=by rw [Nat.pow_zero,Nat.mul_one];exact ⟨qE,yO⟩
 clear qE yO;go_enter func108,ntmps108;go_wp2;go_loop [6,7,8] (fun p q r=>∃ k m s:Nat,p=.int .u64 m/\q=.int .u64 s/\r=.int .i64 (-(k:Int))/\k<=117/\m<18446744073709551616/\s<den/\(k=0\/m<18014398509481984)/\ag (m=num*2^k/den/\s=num*2^k%den)) (fun _ _ r=>(intOf r+200).toNat)
 case atStart =>
  exact ⟨0,q0,r0,rfl,by rw [Lb],by simp,by omega,Y2,Y3,.inl rfl,E0⟩
 case round =>
  obtain ⟨k,m,s,rfl,rfl,rfl,hk,hm,hs,lZ,HM⟩:=hrel;clear YZ Lb;obtain ⟨mi,qF⟩:∃ mi:Int,(m:Int)=mi:=⟨_,rfl⟩;have HI:ag _:=qF;have Y4:0<=mi:=by omega
  have Y5:mi<18446744073709551616:=by omega
  by_cases ak:m<9007199254740992
  ·have Cy:k<117:=by
    obtain ⟨e1,e2⟩:=HM.o;rcases Nat.lt_or_ge k 117 with z | z
    ·exact z
    ·exfalso
     have p:2^117<=2^k:=Nat.pow_le_pow_right (by decide) z
     have p2:2^k<=num*2^k:=Nat.le_mul_of_pos_left _ n0;have p3:num*2^k<9007199254740992*den:=(Nat.div_lt_iff_lt_mul d0).1 (by rw [<-e1];exact ak)
     have p4:(2:Nat)^117=166153499473114484112975882535043072:=by decide +kernel
     clear e1 e2 HM E0 aJ;omega
   have st:=YU (num*2^k) den d0;have pk:2*(num*2^k)=num*2^(k+1):=by rw [Nat.pow_succ];ac_rfl
   rw [pk,<-HM.o.1,<-HM.o.2] at st;have sm:2*s%den<den:=Nat.mod_lt _ d0;by_cases one:den<=2*s
   ·rw [if_pos one] at st
    have H':ag (2*m+1=num*2^(k+1)/den/\2*s%den=num*2^(k+1)%den):=⟨st.1.symm,st.2.symm⟩;clear st pk HM E0;generalize Cz:2*s%den=s2 at *;have bm:2*m+1<18014398509481984:=by omega
    have dG:mi<9007199254740992:=by omega
    rw [qF];clear qF ak lZ hm;go_wp2_with (go_at_call 128;refine (K5 s den hs hd _).mono ?_;rw [Cz];rintro e w' ⟨rfl,rfl⟩);exact ⟨⟨k+1,2*m+1,s2,by have:=HI.o;congr 1;omega,rfl,by congr 1;omega,by omega,by omega,sm,.inr bm,H'⟩,by simp [intOf];omega⟩
   ·rw [if_neg one] at st
    have H':ag (2*m=num*2^(k+1)/den/\2*s%den=num*2^(k+1)%den):=⟨by rw [st.1];rfl,st.2.symm⟩
    clear st pk HM E0;generalize Cz:2*s%den=s2 at *;have bm:2*m<18014398509481984:=by omega
    have dG:mi<9007199254740992:=by omega
    rw [qF];clear qF ak lZ hm;go_wp2_with (go_at_call 128;refine (K5 s den hs hd _).mono ?_;rw [Cz];rintro e w' ⟨rfl,rfl⟩);exact ⟨⟨k+1,2*m,s2,by have:=HI.o;congr 1;omega,rfl,by congr 1;omega,by omega,by omega,sm,.inr bm,H'⟩,by simp [intOf];omega⟩
  ·have dG:¬ mi<9007199254740992:=by omega
   clear E0;rw [qF];have m9:9007199254740992<=m:=by omega
   have m8:m<18446744073709551616:=hm;have H9:ag (9007199254740992<=m/\m<18446744073709551616):=⟨m9,m8⟩;clear qF ak lZ hm m9 m8;go_wp2;go_loop [6,8,9] (fun p r l=>∃ (j M:Nat) (lf:Bool),p=.int .u64 M/\r=.int .i64 ((j:Int)-k)/\l=.bool lf/\j<=10/\9007199254740992<=M/\M*2^j<18446744073709551616/\ag (M=m/2^j/\lf=decide (m%2^j≠0))) (fun p _ _=>(intOf p).toNat)
   case atStart=>exact ⟨0,m,false,by rw [HI.o],by congr 1;omega,rfl,by omega,H9.o.1,by rw [Nat.pow_zero,Nat.mul_one];exact H9.o.2,⟨by rw [Nat.pow_zero,Nat.div_one],by simp [Nat.mod_one]⟩⟩
   case round =>
    obtain ⟨j,M,lf,rfl,rfl,rfl,hj,hM,yP,HL⟩:=hrel;clear HI dG Y4 Y5;obtain ⟨Mi,oM⟩:∃ Mi:Int,(M:Int)=Mi:=⟨_,rfl⟩;have HJ:ag _:=oM;have Mi0:9007199254740992<=Mi:=by omega
    have Mi1:Mi<18446744073709551616:=by have:=Nat.le_mul_of_pos_right M (Nat.two_pow_pos j);omega
    by_cases uN:18014398509481984<=M
    ·have uO:j<10:=by
      rcases Nat.lt_or_ge j 10 with z | z
      ·exact z
      ·exfalso
       obtain rfl:j=10:=by omega
       have:(2:Nat)^10=1024:=rfl
       rw [this] at yP;omega
     have e1:M/2=m/2^(j+1):=by rw [HL.o.1,Nat.pow_succ,Nat.div_div_eq_div_mul]
     have e2:m%2^(j+1)=m%2^j+2^j*(M%2):=by rw [Nat.pow_succ,Nat.mod_mul,HL.o.1]
     have hP:=Nat.two_pow_pos j;have e3:M/2*2^(j+1)<18446744073709551616:=by
      rw [Nat.pow_succ,Nat.mul_comm (2^j),<-Nat.mul_assoc];have:M/2*2*2^j<=M*2^j:=Nat.mul_le_mul_right _ (by omega)
      omega
     have hl:=HL.o.2;have Y6:18014398509481984<=Mi:=by omega
     rcases Nat.mod_two_eq_zero_or_one M with o | o
     ·have H':ag (M/2=m/2^(j+1)/\lf=decide (m%2^(j+1)≠0)):=⟨e1,by rw [hl,e2,o,Nat.mul_zero,Nat.add_zero]⟩
      have o':(Mi%2 == 1)=false:=by simp;omega
      have nH:ag (Mi/2=((M/2:Nat):Int)/\9007199254740992<=M/2):=⟨by omega,by omega⟩
      rw [oM];clear e1 e2 hl HL yP oM uN hM HJ;generalize M/2=M2 at *;cases lf
      ·go_wp2
       exact ⟨⟨j+1,M2,false,by rw [nH.o.1],by congr 1;omega,rfl,by omega,nH.o.2,e3,H'⟩,by simp [intOf];omega⟩
      ·go_wp2
       exact ⟨⟨j+1,M2,true,by rw [nH.o.1],by congr 1;omega,rfl,by omega,nH.o.2,e3,H'⟩,by simp [intOf];omega⟩
     ·have H':ag (M/2=m/2^(j+1)/\true=decide (m%2^(j+1)≠0)):=⟨e1,by rw [e2,o,Nat.mul_one];exact (decide_eq_true (by omega)).symm⟩
      have o':(Mi%2 == 1)=true:=by simp;omega
      have nH:ag (Mi/2=((M/2:Nat):Int)/\9007199254740992<=M/2):=⟨by omega,by omega⟩
      rw [oM];clear e1 e2 hl HL yP oM uN hM HJ;generalize M/2=M2 at *;cases lf
      ·go_wp2
       exact ⟨⟨j+1,M2,true,by rw [nH.o.1],by congr 1;omega,rfl,by omega,nH.o.2,e3,H'⟩,by simp [intOf];omega⟩
      ·go_wp2
       exact ⟨⟨j+1,M2,true,by rw [nH.o.1],by congr 1;omega,rfl,by omega,nH.o.2,e3,H'⟩,by simp [intOf];omega⟩
    ·obtain ⟨X,hX⟩:∃ X:Int,X=(j:Int)-k+1:=⟨_,rfl⟩
     have X0:-120<=X:=by omega
     have X1:X<=12:=by omega
     have Y7:(j:Int)-k+1=X:=hX.symm;have Y6:¬ 18014398509481984<=Mi:=by omega
     have keys:ag (∀ c m':Nat,m'=M/2+(if M%2=1/\(lf=true\/s≠0\/M/2%2=1) then 1 else 0)->(c:Int)=(1074+X)*4503599627370496+m'->c=b0):=by
      intro c m' uP hc;obtain ⟨f1,f2⟩:=HL.o;obtain ⟨g1,g2⟩:=HM.o;refine aJ.o k j c m' (by omega) (by rw [<-g1,<-f1];exact hM) (by rw [<-g1,<-f1];omega) ?_ (by rw [hc,hX])
      rw [<-g1,<-g2,<-f1,uP,f2];simp only [decide_eq_true_eq]
     have HP:ag (Mi/2=((M/2:Nat):Int)/\4503599627370496<=M/2/\M/2<9007199254740992/\(M:Int)=Mi):=⟨by omega,by omega,by omega,oM⟩
     obtain ⟨fg,afX⟩:∃ fg:Int,Mi/2=fg:=⟨_,rfl⟩;have M2b:0<=fg:=by omega
     have M2c:fg<9007199254740992:=by omega
     rw [oM];clear HL HM aJ hX yP oM uN hM HJ;rcases Nat.mod_two_eq_zero_or_one M with o | o
     have o':(Mi%2 == 1)=false:=by have:=HP.o.2.2.2;simp;omega
     cases lf
     by_cases s0:0<s
     obtain ⟨mm,fj⟩:∃ mm:Nat,mm=M/2:=⟨_,rfl⟩;have key:ag (∀ c:Nat,(c:Int)=(1074+X)*4503599627370496+mm->c=b0):=fun c hc=>keys.o c mm (by rw [fj,if_neg (by simp;omega)];rfl) hc
     have m0:4503599627370496<=mm:=by have:=HP.o;omega
     have m1:mm<=9007199254740992:=by have:=HP.o;omega
     have ef:floatOfInt .f64 (fg)=1074*4503599627370496+mm:=by rw [show fg=(mm:Int) by have:=HP.o;omega];exact qD mm m0 m1
     clear keys fj HP
     rotate_left
     obtain ⟨mm,fj⟩:∃ mm:Nat,mm=M/2:=⟨_,rfl⟩;have key:ag (∀ c:Nat,(c:Int)=(1074+X)*4503599627370496+mm->c=b0):=fun c hc=>keys.o c mm (by rw [fj,if_neg (by simp;omega)];rfl) hc
     have m0:4503599627370496<=mm:=by have:=HP.o;omega
     have m1:mm<=9007199254740992:=by have:=HP.o;omega
     have ef:floatOfInt .f64 (fg)=1074*4503599627370496+mm:=by rw [show fg=(mm:Int) by have:=HP.o;omega];exact qD mm m0 m1
     clear keys fj HP
     rotate_left
     obtain ⟨mm,fj⟩:∃ mm:Nat,mm=M/2:=⟨_,rfl⟩;have key:ag (∀ c:Nat,(c:Int)=(1074+X)*4503599627370496+mm->c=b0):=fun c hc=>keys.o c mm (by rw [fj,if_neg (by simp;omega)];rfl) hc
     have m0:4503599627370496<=mm:=by have:=HP.o;omega
     have m1:mm<=9007199254740992:=by have:=HP.o;omega
     have ef:floatOfInt .f64 (fg)=1074*4503599627370496+mm:=by rw [show fg=(mm:Int) by have:=HP.o;omega];exact qD mm m0 m1
     clear keys fj HP
     rotate_left
     have o':(Mi%2 == 1)=true:=by have:=HP.o.2.2.2;simp;omega
     cases lf
     by_cases s0:0<s
     obtain ⟨mm,fj⟩:∃ mm:Nat,mm=M/2+1:=⟨_,rfl⟩;have key:ag (∀ c:Nat,(c:Int)=(1074+X)*4503599627370496+mm->c=b0):=fun c hc=>keys.o c mm (by rw [fj,if_pos (by simp;omega)]) hc
     have m0:4503599627370496<=mm:=by have:=HP.o;omega
     have m1:mm<=9007199254740992:=by have:=HP.o;omega
     have ef:floatOfInt .f64 (fg+1)=1074*4503599627370496+mm:=by rw [show fg+1=(mm:Int) by have:=HP.o;omega];exact qD mm m0 m1
     clear keys fj HP
     rotate_left
     rcases Nat.mod_two_eq_zero_or_one (M/2) with o2 | o2
     have Y8:(fg%2 == 1)=false:=by have:=HP.o;simp;omega
     obtain ⟨mm,fj⟩:∃ mm:Nat,mm=M/2:=⟨_,rfl⟩;have key:ag (∀ c:Nat,(c:Int)=(1074+X)*4503599627370496+mm->c=b0):=fun c hc=>keys.o c mm (by rw [fj,if_neg (by simp;omega)];rfl) hc
     have m0:4503599627370496<=mm:=by have:=HP.o;omega
     have m1:mm<=9007199254740992:=by have:=HP.o;omega
     have ef:floatOfInt .f64 (fg)=1074*4503599627370496+mm:=by rw [show fg=(mm:Int) by have:=HP.o;omega];exact qD mm m0 m1
     clear keys fj HP
     rotate_left
     have Y8:(fg%2 == 1)=true:=by have:=HP.o;simp;omega
     obtain ⟨mm,fj⟩:∃ mm:Nat,mm=M/2+1:=⟨_,rfl⟩;have key:ag (∀ c:Nat,(c:Int)=(1074+X)*4503599627370496+mm->c=b0):=fun c hc=>keys.o c mm (by rw [fj,if_pos (by simp;omega)]) hc
     have m0:4503599627370496<=mm:=by have:=HP.o;omega
     have m1:mm<=9007199254740992:=by have:=HP.o;omega
     have ef:floatOfInt .f64 (fg+1)=1074*4503599627370496+mm:=by rw [show fg+1=(mm:Int) by have:=HP.o;omega];exact qD mm m0 m1
     clear keys fj HP
     rotate_left
     obtain ⟨mm,fj⟩:∃ mm:Nat,mm=M/2+1:=⟨_,rfl⟩;have key:ag (∀ c:Nat,(c:Int)=(1074+X)*4503599627370496+mm->c=b0):=fun c hc=>keys.o c mm (by rw [fj,if_pos (by simp;omega)]) hc
     have m0:4503599627370496<=mm:=by have:=HP.o;omega
     have m1:mm<=9007199254740992:=by have:=HP.o;omega
     have ef:floatOfInt .f64 (fg+1)=1074*4503599627370496+mm:=by rw [show fg+1=(mm:Int) by have:=HP.o;omega];exact qD mm m0 m1
     clear keys fj HP
     rotate_left
     all_goals
      go_wp2
      go_loop [8,13] (fun p q=>∃ (y:Int) (c:Nat),p=.int .i64 y/\q=.float .f64 c/\y<=12/\-120<=y/\ag ((c:Int)=(1074+X-y)*4503599627370496+mm)) (fun p _=>(intOf p).toNat)
      case atStart=>exact ⟨X,1074*4503599627370496+mm,by first | rfl | rw [Y7],rfl,X1,X0,show _=_ by omega⟩
      case round =>
       obtain ⟨y,c,rfl,rfl,y1,y0,hc⟩:=hrel;have c0:4200000000000000000<=c:=by have:=hc.o;omega
       have c1:c<6000000000000000000:=by have:=hc.o;omega
       by_cases hy:0<y
       ·have k1:∀ w,(binOp .mul 127 (.float .f64 c) (.float .f64 4611686018427387904)).run prog w=.ok (.float .f64 (c+4503599627370496)) w:=fun w=>run_float_arith w .mul _ _ _ _ _ (YS c0 c1)
        go_wp2
        exact ⟨⟨y-1,c+4503599627370496,rfl,rfl,by omega,by omega,show _=_ by have:=hc.o;omega⟩,by simp [intOf];omega⟩
       ·clear c0 c1
        go_wp2
        go_loop [8,13] (fun p q=>∃ (y:Int) (c:Nat),p=.int .i64 y/\q=.float .f64 c/\y<=0/\-120<=y/\ag ((c:Int)=(1074+X-y)*4503599627370496+mm)) (fun p _=>(-(intOf p)).toNat)
        case atStart=>exact ⟨y,c,rfl,rfl,by omega,y0,hc⟩
        case round =>
         clear hc y0 y1 hy;obtain ⟨y,c,rfl,rfl,y1,y0,hc⟩:=hrel;have c0:4200000000000000000<=c:=by have:=hc.o;omega
         have c1:c<6000000000000000000:=by have:=hc.o;omega
         by_cases hy:y<0
         ·have k1:∀ w,(binOp .quo 127 (.float .f64 c) (.float .f64 4611686018427387904)).run prog w=.ok (.float .f64 (c-4503599627370496)) w:=fun w=>run_float_arith w .quo _ _ _ _ _ (XY (by omega) (by omega))
          go_wp2
          exact ⟨⟨y+1,c-4503599627370496,rfl,rfl,by omega,by omega,show _=_ by have:=hc.o;omega⟩,by simp [intOf];omega⟩
         ·have fc:c=b0:=key.o c (by have:=hc.o;omega)
          clear c0 c1;go_wp2;go_ret2;exact ⟨by first | rfl | (rw [fc];rfl),rfl⟩
end Go.Proofs.YtklkpldicbkjeaaGreat
