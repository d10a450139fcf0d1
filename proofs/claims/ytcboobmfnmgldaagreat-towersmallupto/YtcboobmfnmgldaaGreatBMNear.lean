/- The document's Near, bit by bit: it ends with the nearest float. -/
import Derived.Test.YtcboobmfnmgldaaGreatBPFg
set_option linter.unusedVariables false
set_option maxHeartbeats 8000000
set_option maxRecDepth 20000
open Go.Proofs.Tryz
namespace Go.Proofs.YtcboobmfnmgldaaGreat
open Go.RowKit
theorem Lx (r den:Nat) (h:r<den) (hd:den<18446744073709551616) (w:World) :
    Calls prog 134 #[By r,By den] w fun e w'=>e=.returned (.tuple #[By ((2*r%den:Nat):Int),.bool (decide (den<=2*r))])/\w'=w:=by
  by_cases c:den<=2*r
  · rw [decide_eq_true c,show 2*r%den=2*r-den by rw [Nat.mod_eq_sub_mod c,Nat.mod_eq_of_lt (by omega)]]
    have e1:((2*r-den:Nat):Int)=(r:Int)-(den-r):=by omega
    rw [e1];go_enter func134,ntmps134;go_wp2;go_ret2;exact ⟨rfl,rfl⟩
  · rw [decide_eq_false c,Nat.mod_eq_of_lt (by omega)]
    have e1:((2*r:Nat):Int)=2*(r:Int):=by omega
    rw [e1];go_enter func134,ntmps134;go_wp2;go_ret2;exact ⟨rfl,rfl⟩
theorem Zo (den:Nat) (hd:0<den) (w:World) :
    Calls prog 110 #[By 0,By den] w fun e w'=>e=.returned (.tuple #[.float .f64 0,AI 0])/\w'=w:=by
  have h1:((den:Int) == 0)=false:=by simp;omega
  go_enter func110,ntmps110;go_wp2;go_ret2;exact ⟨rfl,rfl⟩
theorem qM (m:Nat) (h0:4503599627370496<=m) (h1:m<=9007199254740992):floatOfInt .f64 (m:Int)=1074*4503599627370496+m:=by
  obtain ⟨j,hj,eU⟩:=kZ;have hv:V (1074*4503599627370496+m)=m*Un:=by
    rw [<-hj,jd j m h1 (.inl h0),eU]
  rw [K3 (m:Int) (1074*4503599627370496+m) (by omega) (by rw [Int.natAbs_natCast];exact hv),show decide ((m:Int)<0)=false from decide_eq_false (by omega),Di]
theorem Zp {c:Nat} (h0:4200000000000000000<=c) (h1:c<6000000000000000000):Ieee.double.mul c 4611686018427387904=some (c+4503599627370496):=by
  rw [Yo (by omega)];unfold qH;rw [if_neg (by omega)]
theorem Zq (A D:Nat) (hD:0<D):2*A/D=2*(A/D)+(if D<=2*(A%D) then 1 else 0)/\2*A%D=2*(A%D)%D:=by
  have hd:=Nat.div_add_mod A D;have hm:=Nat.mod_lt A hD;generalize A/D=q at *;generalize A%D=r at *;have e:2*A=2*r+D*(2*q):=by rw [<-hd,Nat.mul_add,Nat.mul_left_comm];omega
  rw [e,Nat.add_mul_div_left _ _ hD,Nat.add_mul_mod_self_left];refine ⟨?_,rfl⟩;split
  · rename_i c
    rw [show 2*r/D=1 from Nat.div_eq_of_lt_le (by omega) (by omega)];omega
  · rw [Nat.div_eq_of_lt (by omega)];omega
theorem Zr (A D j:Nat) (hD:0<D) :
    fQ A (D*2^(j+1))=A/D/2^j/2+(if A/D/2^j%2=1/\(A/D%2^j≠0\/A%D≠0\/A/D/2^j/2%2=1) then 1 else 0):=by
  have hm:=Nat.mod_lt A hD;have hP:=Nat.two_pow_pos j;unfold fQ;have q1:A/(D*2^(j+1))=A/D/2^j/2:=by rw [Nat.pow_succ,<-Nat.div_div_eq_div_mul,<-Nat.div_div_eq_div_mul]
  have q2:A%(D*2^(j+1))=D*(A/D%2^(j+1))+A%D:=by rw [Nat.mod_mul];omega
  have q3:A/D%2^(j+1)=A/D%2^j+2^j*(A/D/2^j%2):=by rw [Nat.pow_succ,Nat.mod_mul]
  have q4:D*2^(j+1)=2*(D*2^j):=by rw [Nat.pow_succ,<-Nat.mul_assoc];omega
  rw [q1,q2,q3,q4,show D*(A/D%2^j+2^j*(A/D/2^j%2))=D*(A/D%2^j)+D*2^j*(A/D/2^j%2) by rw [Nat.mul_add,Nat.mul_assoc]]
  clear q1 q2 q3 q4;have hs:=Nat.mod_lt (A/D) hP;generalize A/D/2^j=M at *;generalize A/D%2^j=s at *;generalize A%D=r at *;have d1:D*s+D<=D*2^j:=by
    have:=Nat.mul_le_mul_left D (show s+1<=2^j by omega)
    rw [Nat.mul_add,Nat.mul_one] at this;exact this
  have d2:D*s=0↔s=0:=by
    constructor
    · intro h;rcases Nat.mul_eq_zero.1 h with h | h<;>omega
    · intro h;rw [h,Nat.mul_zero]
  generalize D*2^j=K at *;generalize D*s=T at *;congr 1;rcases Nat.mod_two_eq_zero_or_one M with h | h
  · rw [h,Nat.mul_zero,Nat.add_zero,if_neg (by omega),decide_eq_false (by omega),show (2*K == 2*(T+r))=false by rw [beq_eq_false_iff_ne];omega]
    rfl
  · rw [h,Nat.mul_one]
    by_cases c:s≠0\/r≠0
    · rw [decide_eq_true (by omega),if_pos ⟨rfl,by omega⟩];rfl
    · rw [decide_eq_false (by omega),show (2*K == 2*(T+K+r))=true by rw [beq_iff_eq];omega]
      by_cases o:M/2%2=1
      · rw [if_pos ⟨rfl,.inr (.inr o)⟩,o];rfl
      · rw [if_neg (by omega),show (M/2%2 == 1)=false by rw [beq_eq_false_iff_ne];exact o];rfl
theorem Zs (num den k j:Nat) (b0:Nat) (h:Nr (num*Un) den b0) (d0:0<den) (hk:k<=200) (Ly:9007199254740992<=num*2^k/den/2^j) (Lz:num*2^k/den/2^j<18014398509481984) (c m:Nat)
    (hm:m=num*2^k/den/2^j/2+(if num*2^k/den/2^j%2=1/\(num*2^k/den%2^j≠0\/num*2^k%den≠0\/num*2^k/den/2^j/2%2=1) then 1 else 0))
    (hc:(c:Int)=(1074+((j:Int)-k+1))*4503599627370496+m):c=b0:=by
  have hP:=Nat.two_pow_pos (j+1);have hg:0<den*2^(j+1):=Nat.mul_pos d0 hP;have q1:num*2^k/(den*2^(j+1))=num*2^k/den/2^j/2:=by rw [Nat.pow_succ,<-Nat.div_div_eq_div_mul,<-Nat.div_div_eq_div_mul]
  rw [<-Zr _ _ _ d0] at hm;obtain ⟨e,he⟩:∃ e:Nat,(e:Int)=1074+((j:Int)-k+1):=⟨(1074+((j:Int)-k+1)).toNat,by omega⟩
  have nr:=Nr.of_rne (num*2^k) (den*2^(j+1)) e hg (by rw [q1];clear hm hc h;omega) (.inl (by rw [q1];clear hm hc h;omega))
  have ec:c=e*4503599627370496+m:=by rw [<-he] at hc;clear hm h nr Ly Lz q1;omega
  rw [<-hm,<-ec] at nr;refine (nr.scale hg d0 ?_).uniq h d0;obtain ⟨u,hu,eU⟩:=kZ;rw [eU];have e1:num*2^k*2^e*den=num*den*2^(k+e):=by rw [Nat.pow_add];ac_rfl
  have e2:num*2^u*(den*2^(j+1))=num*den*2^(u+(j+1)):=by rw [Nat.pow_add 2 u];ac_rfl
  rw [e1,e2,show k+e=u+(j+1) by clear eU hm h nr Ly Lz q1;omega]
theorem Zt (num den b0:Nat) (hn:num<18446744073709551616) (hd:den<18446744073709551616) (n0:0<num) (d0:0<den) (hb:Nr (num*Un) den b0) (w:World) :
    Calls prog 110 #[By num,By den] w fun e w'=>e=.returned (.tuple #[.float .f64 b0,AI 0])/\w'=w:=by
  have h1:((den:Int) == 0)=false:=by simp;omega
  have h2:((num:Int) == 0)=false:=by simp;omega
  have aL:ag (∀ k j c m':Nat,k<=200->9007199254740992<=num*2^k/den/2^j->num*2^k/den/2^j<18014398509481984 ->
      m'=num*2^k/den/2^j/2+(if num*2^k/den/2^j%2=1/\(num*2^k/den%2^j≠0\/num*2^k%den≠0\/num*2^k/den/2^j/2%2=1) then 1 else 0) ->
      (c:Int)=(1074+((j:Int)-k+1))*4503599627370496+m'->c=b0):=fun k j c m' a1 a2 a3 a4 a5=>Zs num den k j b0 hb d0 a1 a2 a3 c m' a4 a5
  clear hb;obtain ⟨q0,vm⟩:∃ q0:Nat,q0=num/den:=⟨_,rfl⟩;obtain ⟨r0,zA⟩:∃ r0:Nat,r0=num%den:=⟨_,rfl⟩;have Zu:(num:Int)/den=(q0:Int):=by rw [vm];exact (Int.natCast_ediv _ _).symm
  have LC:(num:Int)%den=(r0:Int):=by rw [zA];exact (Int.natCast_emod _ _).symm
  have Zv:q0<18446744073709551616:=by rw [vm];exact Nat.lt_of_le_of_lt (Nat.div_le_self _ _) hn
  have Zw:r0<den:=by rw [zA];exact Nat.mod_lt _ d0
  have E0:ag (q0=num*2^0/den/\r0=num*2^0%den):=by rw [Nat.pow_zero,Nat.mul_one];exact ⟨vm,zA⟩
  clear vm zA;go_enter func110,ntmps110;go_wp2;go_loop [6,7,8] (fun p q r=>∃ k m s:Nat,p=By m/\q=By s/\r=AI (-(k:Int))/\k<=117/\m<18446744073709551616/\s<den/\(k=0\/m<18014398509481984)/\ag (m=num*2^k/den/\s=num*2^k%den)) (fun _ _ r=>(intOf r+200).toNat)
  case atStart =>
    exact ⟨0,q0,r0,rfl,by rw [LC],by simp,by omega,Zv,Zw,.inl rfl,E0⟩
  case round =>
    obtain ⟨k,m,s,rfl,rfl,rfl,hk,hm,hs,tI,HM⟩:=hrel;clear Zu LC;obtain ⟨mi,qN⟩:∃ mi:Int,(m:Int)=mi:=⟨_,rfl⟩;have HI:ag _:=qN;have Zx:0<=mi:=by omega
    have Zy:mi<18446744073709551616:=by omega
    by_cases ar:m<9007199254740992
    · have Du:k<117:=by
        obtain ⟨e1,e2⟩:=HM.o;rcases Nat.lt_or_ge k 117 with z | z
        · exact z
        · exfalso
          have p:2^117<=2^k:=Nat.pow_le_pow_right (by decide) z
          have p2:2^k<=num*2^k:=Nat.le_mul_of_pos_left _ n0;have p3:num*2^k<9007199254740992*den:=(Nat.div_lt_iff_lt_mul d0).1 (by rw [<-e1];exact ar)
          have p4:(2:Nat)^117=166153499473114484112975882535043072:=by decide +kernel
          clear e1 e2 HM E0 aL;omega
      have st:=Zq (num*2^k) den d0;have pk:2*(num*2^k)=num*2^(k+1):=by rw [Nat.pow_succ];ac_rfl
      rw [pk,<-HM.o.1,<-HM.o.2] at st;have sm:2*s%den<den:=Nat.mod_lt _ d0;by_cases one:den<=2*s
      · rw [if_pos one] at st
        have H':ag (2*m+1=num*2^(k+1)/den/\2*s%den=num*2^(k+1)%den):=⟨st.1.symm,st.2.symm⟩;clear st pk HM E0;generalize Dv:2*s%den=s2 at *;have bm:2*m+1<18014398509481984:=by omega
        have eZ:mi<9007199254740992:=by omega
        rw [qN];clear qN ar tI hm;go_wp2_with (go_at_call 134;refine (Lx s den hs hd _).mono ?_;rw [Dv];rintro e w' ⟨rfl,rfl⟩);exact ⟨⟨k+1,2*m+1,s2,by have:=HI.o;congr 1;omega,rfl,by congr 1;omega,by omega,by omega,sm,.inr bm,H'⟩,by simp [intOf];omega⟩
      · rw [if_neg one] at st
        have H':ag (2*m=num*2^(k+1)/den/\2*s%den=num*2^(k+1)%den):=⟨by rw [st.1];rfl,st.2.symm⟩
        clear st pk HM E0;generalize Dv:2*s%den=s2 at *;have bm:2*m<18014398509481984:=by omega
        have eZ:mi<9007199254740992:=by omega
        rw [qN];clear qN ar tI hm;go_wp2_with (go_at_call 134;refine (Lx s den hs hd _).mono ?_;rw [Dv];rintro e w' ⟨rfl,rfl⟩);exact ⟨⟨k+1,2*m,s2,by have:=HI.o;congr 1;omega,rfl,by congr 1;omega,by omega,by omega,sm,.inr bm,H'⟩,by simp [intOf];omega⟩
    · have eZ:¬ mi<9007199254740992:=by omega
      clear E0;rw [qN];have m9:9007199254740992<=m:=by omega
      have m8:m<18446744073709551616:=hm;have H9:ag (9007199254740992<=m/\m<18446744073709551616):=⟨m9,m8⟩;clear qN ar tI hm m9 m8;go_wp2;go_loop [6,8,9] (fun p r l=>∃ (j M:Nat) (lf:Bool),p=By M/\r=AI ((j:Int)-k)/\l=.bool lf/\j<=10/\9007199254740992<=M/\M*2^j<18446744073709551616/\ag (M=m/2^j/\lf=decide (m%2^j≠0))) (fun p _ _=>(intOf p).toNat)
      case atStart=>exact ⟨0,m,false,by rw [HI.o],by congr 1;omega,rfl,by omega,H9.o.1,by rw [Nat.pow_zero,Nat.mul_one];exact H9.o.2,⟨by rw [Nat.pow_zero,Nat.div_one],by simp [Nat.mod_one]⟩⟩
      case round =>
        obtain ⟨j,M,lf,rfl,rfl,rfl,hj,hM,zB,HL⟩:=hrel;clear HI eZ Zx Zy;obtain ⟨Mi,oT⟩:∃ Mi:Int,(M:Int)=Mi:=⟨_,rfl⟩;have HJ:ag _:=oT;have Mi0:9007199254740992<=Mi:=by omega
        have Mi1:Mi<18446744073709551616:=by have:=Nat.le_mul_of_pos_right M (Nat.two_pow_pos j);omega
        by_cases vp:18014398509481984<=M
        · have vr:j<10:=by
            rcases Nat.lt_or_ge j 10 with z | z
            · exact z
            · exfalso
              obtain rfl:j=10:=by omega
              have:(2:Nat)^10=1024:=rfl
              rw [this] at zB;omega
          have e1:M/2=m/2^(j+1):=by rw [HL.o.1,Nat.pow_succ,Nat.div_div_eq_div_mul]
          have e2:m%2^(j+1)=m%2^j+2^j*(M%2):=by rw [Nat.pow_succ,Nat.mod_mul,HL.o.1]
          have hP:=Nat.two_pow_pos j;have e3:M/2*2^(j+1)<18446744073709551616:=by
            rw [Nat.pow_succ,Nat.mul_comm (2^j),<-Nat.mul_assoc];have:M/2*2*2^j<=M*2^j:=Nat.mul_le_mul_right _ (by omega)
            omega
          have hl:=HL.o.2;have Zz:18014398509481984<=Mi:=by omega
          rcases Nat.mod_two_eq_zero_or_one M with o | o
          · have H':ag (M/2=m/2^(j+1)/\lf=decide (m%2^(j+1)≠0)):=⟨e1,by rw [hl,e2,o,Nat.mul_zero,Nat.add_zero]⟩
            have o':(Mi%2 == 1)=false:=by simp;omega
            have nC:ag (Mi/2=((M/2:Nat):Int)/\9007199254740992<=M/2):=⟨by omega,by omega⟩
            rw [oT];clear e1 e2 hl HL zB oT vp hM HJ;generalize M/2=M2 at *;cases lf
            · go_wp2
              exact ⟨⟨j+1,M2,false,by rw [nC.o.1],by congr 1;omega,rfl,by omega,nC.o.2,e3,H'⟩,by simp [intOf];omega⟩
            · go_wp2
              exact ⟨⟨j+1,M2,true,by rw [nC.o.1],by congr 1;omega,rfl,by omega,nC.o.2,e3,H'⟩,by simp [intOf];omega⟩
          · have H':ag (M/2=m/2^(j+1)/\true=decide (m%2^(j+1)≠0)):=⟨e1,by rw [e2,o,Nat.mul_one];exact (decide_eq_true (by omega)).symm⟩
            have o':(Mi%2 == 1)=true:=by simp;omega
            have nC:ag (Mi/2=((M/2:Nat):Int)/\9007199254740992<=M/2):=⟨by omega,by omega⟩
            rw [oT];clear e1 e2 hl HL zB oT vp hM HJ;generalize M/2=M2 at *;cases lf
            · go_wp2
              exact ⟨⟨j+1,M2,true,by rw [nC.o.1],by congr 1;omega,rfl,by omega,nC.o.2,e3,H'⟩,by simp [intOf];omega⟩
            · go_wp2
              exact ⟨⟨j+1,M2,true,by rw [nC.o.1],by congr 1;omega,rfl,by omega,nC.o.2,e3,H'⟩,by simp [intOf];omega⟩
        · obtain ⟨X,hX⟩:∃ X:Int,X=(j:Int)-k+1:=⟨_,rfl⟩
          have X0:-120<=X:=by omega
          have X1:X<=12:=by omega
          have ZA:(j:Int)-k+1=X:=hX.symm;have Zz:¬ 18014398509481984<=Mi:=by omega
          have keys:ag (∀ c m':Nat,m'=M/2+(if M%2=1/\(lf=true\/s≠0\/M/2%2=1) then 1 else 0)->(c:Int)=(1074+X)*4503599627370496+m'->c=b0):=by
            intro c m' vt hc;obtain ⟨f1,f2⟩:=HL.o;obtain ⟨g1,g2⟩:=HM.o;refine aL.o k j c m' (by omega) (by rw [<-g1,<-f1];exact hM) (by rw [<-g1,<-f1];omega) ?_ (by rw [hc,hX])
            rw [<-g1,<-g2,<-f1,vt,f2];simp only [decide_eq_true_eq]
          have HP:ag (Mi/2=((M/2:Nat):Int)/\4503599627370496<=M/2/\M/2<9007199254740992/\(M:Int)=Mi):=⟨by omega,by omega,by omega,oT⟩
          obtain ⟨fF,af5⟩:∃ fF:Int,Mi/2=fF:=⟨_,rfl⟩;have M2b:0<=fF:=by omega
          have M2c:fF<9007199254740992:=by omega
          rw [oT];clear HL HM aL hX zB oT vp hM HJ;rcases Nat.mod_two_eq_zero_or_one M with o | o
          have o':(Mi%2 == 1)=false:=by have:=HP.o.2.2.2;simp;omega
          cases lf
          by_cases s0:0<s
          obtain ⟨mm,fG⟩:∃ mm:Nat,mm=M/2:=⟨_,rfl⟩;have key:ag (∀ c:Nat,(c:Int)=(1074+X)*4503599627370496+mm->c=b0):=fun c hc=>keys.o c mm (by rw [fG,if_neg (by simp;omega)];rfl) hc
          have m0:4503599627370496<=mm:=by have:=HP.o;omega
          have m1:mm<=9007199254740992:=by have:=HP.o;omega
          have ef:floatOfInt .f64 (fF)=1074*4503599627370496+mm:=by rw [show fF=(mm:Int) by have:=HP.o;omega];exact qM mm m0 m1
          clear keys fG HP
          rotate_left
          obtain ⟨mm,fG⟩:∃ mm:Nat,mm=M/2:=⟨_,rfl⟩;have key:ag (∀ c:Nat,(c:Int)=(1074+X)*4503599627370496+mm->c=b0):=fun c hc=>keys.o c mm (by rw [fG,if_neg (by simp;omega)];rfl) hc
          have m0:4503599627370496<=mm:=by have:=HP.o;omega
          have m1:mm<=9007199254740992:=by have:=HP.o;omega
          have ef:floatOfInt .f64 (fF)=1074*4503599627370496+mm:=by rw [show fF=(mm:Int) by have:=HP.o;omega];exact qM mm m0 m1
          clear keys fG HP
          rotate_left
          obtain ⟨mm,fG⟩:∃ mm:Nat,mm=M/2:=⟨_,rfl⟩;have key:ag (∀ c:Nat,(c:Int)=(1074+X)*4503599627370496+mm->c=b0):=fun c hc=>keys.o c mm (by rw [fG,if_neg (by simp;omega)];rfl) hc
          have m0:4503599627370496<=mm:=by have:=HP.o;omega
          have m1:mm<=9007199254740992:=by have:=HP.o;omega
          have ef:floatOfInt .f64 (fF)=1074*4503599627370496+mm:=by rw [show fF=(mm:Int) by have:=HP.o;omega];exact qM mm m0 m1
          clear keys fG HP
          rotate_left
          have o':(Mi%2 == 1)=true:=by have:=HP.o.2.2.2;simp;omega
          cases lf
          by_cases s0:0<s
          obtain ⟨mm,fG⟩:∃ mm:Nat,mm=M/2+1:=⟨_,rfl⟩;have key:ag (∀ c:Nat,(c:Int)=(1074+X)*4503599627370496+mm->c=b0):=fun c hc=>keys.o c mm (by rw [fG,if_pos (by simp;omega)]) hc
          have m0:4503599627370496<=mm:=by have:=HP.o;omega
          have m1:mm<=9007199254740992:=by have:=HP.o;omega
          have ef:floatOfInt .f64 (fF+1)=1074*4503599627370496+mm:=by rw [show fF+1=(mm:Int) by have:=HP.o;omega];exact qM mm m0 m1
          clear keys fG HP
          rotate_left
          rcases Nat.mod_two_eq_zero_or_one (M/2) with o2 | o2
          have ZB:(fF%2 == 1)=false:=by have:=HP.o;simp;omega
          obtain ⟨mm,fG⟩:∃ mm:Nat,mm=M/2:=⟨_,rfl⟩;have key:ag (∀ c:Nat,(c:Int)=(1074+X)*4503599627370496+mm->c=b0):=fun c hc=>keys.o c mm (by rw [fG,if_neg (by simp;omega)];rfl) hc
          have m0:4503599627370496<=mm:=by have:=HP.o;omega
          have m1:mm<=9007199254740992:=by have:=HP.o;omega
          have ef:floatOfInt .f64 (fF)=1074*4503599627370496+mm:=by rw [show fF=(mm:Int) by have:=HP.o;omega];exact qM mm m0 m1
          clear keys fG HP
          rotate_left
          have ZB:(fF%2 == 1)=true:=by have:=HP.o;simp;omega
          obtain ⟨mm,fG⟩:∃ mm:Nat,mm=M/2+1:=⟨_,rfl⟩;have key:ag (∀ c:Nat,(c:Int)=(1074+X)*4503599627370496+mm->c=b0):=fun c hc=>keys.o c mm (by rw [fG,if_pos (by simp;omega)]) hc
          have m0:4503599627370496<=mm:=by have:=HP.o;omega
          have m1:mm<=9007199254740992:=by have:=HP.o;omega
          have ef:floatOfInt .f64 (fF+1)=1074*4503599627370496+mm:=by rw [show fF+1=(mm:Int) by have:=HP.o;omega];exact qM mm m0 m1
          clear keys fG HP
          rotate_left
          obtain ⟨mm,fG⟩:∃ mm:Nat,mm=M/2+1:=⟨_,rfl⟩;have key:ag (∀ c:Nat,(c:Int)=(1074+X)*4503599627370496+mm->c=b0):=fun c hc=>keys.o c mm (by rw [fG,if_pos (by simp;omega)]) hc
          have m0:4503599627370496<=mm:=by have:=HP.o;omega
          have m1:mm<=9007199254740992:=by have:=HP.o;omega
          have ef:floatOfInt .f64 (fF+1)=1074*4503599627370496+mm:=by rw [show fF+1=(mm:Int) by have:=HP.o;omega];exact qM mm m0 m1
          clear keys fG HP
          rotate_left
          all_goals
            go_wp2
            go_loop [8,13] (fun p q=>∃ (y:Int) (c:Nat),p=AI y/\q=.float .f64 c/\y<=12/\-120<=y/\ag ((c:Int)=(1074+X-y)*4503599627370496+mm)) (fun p _=>(intOf p).toNat)
            case atStart=>exact ⟨X,1074*4503599627370496+mm,by first | rfl | rw [ZA],rfl,X1,X0,show _=_ by omega⟩
            case round =>
              obtain ⟨y,c,rfl,rfl,y1,y0,hc⟩:=hrel;have c0:4200000000000000000<=c:=by have:=hc.o;omega
              have c1:c<6000000000000000000:=by have:=hc.o;omega
              by_cases hy:0<y
              · have k1:∀ w,(binOp .mul 143 (.float .f64 c) (.float .f64 4611686018427387904)).run prog w=.ok (.float .f64 (c+4503599627370496)) w:=fun w=>run_float_arith w .mul _ _ _ _ _ (Zp c0 c1)
                go_wp2
                exact ⟨⟨y-1,c+4503599627370496,rfl,rfl,by omega,by omega,show _=_ by have:=hc.o;omega⟩,by simp [intOf];omega⟩
              · clear c0 c1
                go_wp2
                go_loop [8,13] (fun p q=>∃ (y:Int) (c:Nat),p=AI y/\q=.float .f64 c/\y<=0/\-120<=y/\ag ((c:Int)=(1074+X-y)*4503599627370496+mm)) (fun p _=>(-(intOf p)).toNat)
                case atStart=>exact ⟨y,c,rfl,rfl,by omega,y0,hc⟩
                case round =>
                  clear hc y0 y1 hy;obtain ⟨y,c,rfl,rfl,y1,y0,hc⟩:=hrel;have c0:4200000000000000000<=c:=by have:=hc.o;omega
                  have c1:c<6000000000000000000:=by have:=hc.o;omega
                  by_cases hy:y<0
                  · have k1:∀ w,(binOp .quo 143 (.float .f64 c) (.float .f64 4611686018427387904)).run prog w=.ok (.float .f64 (c-4503599627370496)) w:=fun w=>run_float_arith w .quo _ _ _ _ _ (Yp (by omega) (by omega))
                    go_wp2
                    exact ⟨⟨y+1,c-4503599627370496,rfl,rfl,by omega,by omega,show _=_ by have:=hc.o;omega⟩,by simp [intOf];omega⟩
                  · have fc:c=b0:=key.o c (by have:=hc.o;omega)
                    clear c0 c1;go_wp2;go_ret2;exact ⟨by first | rfl | (rw [fc];rfl),rfl⟩
end Go.Proofs.YtcboobmfnmgldaaGreat
namespace Go.Proofs.YtcboobmfnmgldaaGreat
open Go.RowKit
def oU:Prop:=∀ (eps:Int) (ao:Option Addr) (n cp:Nat) (f:Nat->Int),-9223372036854775808<=eps->eps<9223372036854775808->n<=2000000->∀ w:World,KS w ao n f ->
  Calls prog 109 #[.slice ao n cp,AI eps] w fun ex w'=>(∃ a b c err:Int,ex=.returned (.tuple #[.agg #[By a,By b,AI c],AI err])/\dP eps f n a b c err/\(0<=a/\a<18446744073709551616)/\(0<=b/\b<18446744073709551616)/\(-9223372036854775808<=c/\c<9223372036854775808))/\Gw w w'
def fR (eps fr:Int) (f:Nat->Int) (n:Nat) (k:Int) (s ic:Nat) (F T er:Int):Prop :=
  (∃ a b c,dP eps f n a b c er/\er≠0/\k=0/\s=0/\ic=0/\F=0/\T=0) \/
  (∃ a b c,dP eps f n a b c 0/\¬ (0<=fr/\fr+n<=4294967296)/\k=0/\s=0/\ic=0/\F=0/\T=0/\er=1) \/
  (∃ a b c,dP eps f n a b c 0/\(0<=fr/\fr+n<=4294967296)/\(a<18446744073709551616/\b<18446744073709551616)/\Nr (a.toNat*Un) b.toNat s/\k=f 0/\ic=floatOfInt .f64 (fr+c)/\F=fr/\T=fr+n/\er=0)
def Sb (w:World) (b:Nat) (k:Int) (s ic:Nat) (F T:Int):Prop:=w.heap[b]?=some (.cells #[By k,.float .f64 s,.float .f64 ic,AI F,AI T] 145 (0,0))
variable {w:World} {b s ic:Nat} {k F T:Int}
theorem Sb.lt (h:Sb w b k s ic F T):b<w.heap.size:=(Array.getElem?_eq_some_iff.1 h).1
variable {w':World}
theorem Sb.gw (h:Sb w b k s ic F T) (g:Gw w w'):Sb w' b k s ic F T:=(g.below.block b h.lt).trans h
theorem Sb.cells (h:Sb w b k s ic F T):w.cell? ⟨b,0,none⟩=some (By k)/\w.cell? ⟨b,1,none⟩=some (.float .f64 s)/\w.cell? ⟨b,2,none⟩=some (.float .f64 ic)/\w.cell? ⟨b,3,none⟩=some (AI F)/\w.cell? ⟨b,4,none⟩=some (AI T):=by
  unfold Sb at h;simp [World.cell?,h]
theorem Sb.fz (h:Sb w b k s ic F T) (o:Nat):w.frozen? ⟨b,o,none⟩=false:=by unfold Sb at h;simp [World.frozen?,h]
theorem iy {P:Program} {a:Addr} {m:Mode} (k:FloatKind) (n:Nat):(store a (.float k n) m).run P w=stored P w a (.float k n) m:=run_store P w a _ m rfl
attribute [local go_sem] iy
theorem ZC (b:Nat):b<=V b:=by
  induction b with
  | zero=>exact Nat.zero_le _
  | succ b ih=>have:=ze b;omega
theorem ZD (x y:Nat) (hy:0<y):∃ b,Nr x y b:=by
  obtain ⟨b,h1,h2⟩:∃ b,V b*y<=x/\x<V (b+1)*y:=by
    have:∀ t,x<V t*y->∃ b,V b*y<=x/\x<V (b+1)*y:=by
      intro t;induction t with
      | zero=>intro h;rw [oS] at h;omega
      | succ t ih =>
        intro h;by_cases k:x<V t*y
        · exact ih k
        · exact ⟨t,by omega,h⟩
    refine this (x+1) ?_;have a:=ZC (x+1);have b:=Nat.mul_le_mul a hy;rw [Nat.mul_one] at b;omega
  have s1:V (b+1)*y<V (b+1+1)*y:=Nat.mul_lt_mul_of_pos_right (ze (b+1)) hy;have lo:(V (b-1)+V b)*y<=2*x/\((V (b-1)+V b)*y=2*x->b%2=0):=by
    by_cases z:b=0
    · subst z;rw [oS] at *;simp
    · have:V (b-1)*y<V b*y:=Nat.mul_lt_mul_of_pos_right (tg (by omega)) hy
      rw [Nat.add_mul];exact ⟨by omega,fun e=>by omega⟩
  by_cases k:2*x<(V b+V (b+1))*y\/(2*x=(V b+V (b+1))*y/\b%2=0)
  · exact ⟨b,lo.1,by omega,lo.2,fun e=>by omega⟩
  · refine ⟨b+1,?_,?_,?_,?_⟩
    · show (V b+V (b+1))*y<=2*x
      omega
    · rw [Nat.add_mul];omega
    · intro e
      have e':(V b+V (b+1))*y=2*x:=e;omega
    · intro e;rw [Nat.add_mul] at e;omega
variable {a:Nat}
theorem ZE (a1:a<18446744073709551616) (b1:b<18446744073709551616) (b0:0<b):∃ s,Nr (a*Un) b s/\∀ w,Calls prog 110 #[By a,By b] w fun e w'=>e=.returned (.tuple #[.float .f64 s,AI 0])/\w'=w:=by
  by_cases z:a=0
  · subst z
    exact ⟨0,by rw [Nat.zero_mul];exact Nr.zero b b0,fun w=>Zo b b0 w⟩
  · obtain ⟨s,hs⟩:=ZD (a*Un) b b0
    exact ⟨s,hs,fun w=>Zt a b s a1 b1 (by omega) b0 hs w⟩
theorem ZF (O5:oU) (eps fr:Int) (ao:Option Addr) (n cp:Nat) (f:Nat->Int) (p0:-9223372036854775808<=eps) (p1:eps<9223372036854775808) (q0:-9223372036854775808<=fr) (q1:fr<9223372036854775808) (hn:n<=2000000) (w:World) (K:KS w ao n f) :
    Calls prog 73 #[.slice ao n cp,AI eps,AI fr] w fun ex w'=>(∃ (k:Int) (s ic:Nat) (F T er:Int),ex=.returned (.tuple #[eC k s ic F T,AI er])/\fR eps fr f n k s ic F T er)/\Gw w w':=by
  have G0:ag (Gw w (w.alloc (.cells #[By 0,.float .f64 0,.float .f64 0,AI 0,AI 0] 145))):=(Gw.refl w).alloc _ _;have Z0:ag (Sb (w.alloc (.cells #[By 0,.float .f64 0,.float .f64 0,AI 0,AI 0] 145)) w.heap.size 0 0 0 0 0):=heap_alloc_new w _;have O:ag _:=fun W (g:Gw w W)=>O5 eps ao n cp f p0 p1 hn W (K.gw g)
  have K':ag _:=K;clear K O5;go_enter func73,ntmps73;go_wp2_with fail;refine (O.o _ G0.o).mono ?_;rintro ex w1 ⟨⟨a,b,c,er,rfl,R0,ab,bb,cb⟩,g1⟩;have G:ag _:=G0.o.trans g1;have Z:ag (Sb w1 w.heap.size 0 0 0 0 0):=Z0.o.gw g1;clear G0 Z0 g1 O;by_cases h:er=0
  · subst h
    obtain ⟨z0,z1,z2,z3,z4⟩:=Z.o.cells;have zl:=Z.o.lt;have y0:=Z.o.fz 0;have y1:=Z.o.fz 1;have y2:=Z.o.fz 2;have y3:=Z.o.fz 3;have y4:=Z.o.fz 4;by_cases h1:fr<0
    · have t2:decide (fr<0)=true:=by simpa using h1
      have R:ag (fR eps fr f n 0 0 0 0 0 1):=.inr (.inl ⟨a,b,c,R0,fun q=>by omega,rfl,rfl,rfl,rfl,rfl,rfl⟩)
      clear R0 h1;go_wp2_with fail;refine bodyPost_ret (v:=.tuple #[eC 0 0 0 0 0,AI 1]) (by simp [results,results73,go_sem,zl,z0,z1,z2,z3,z4]) rfl ⟨⟨0,0,0,0,0,1,rfl,R.o⟩,?_⟩
      refine Gw.alloc (Gw.setCell (Gw.setCell (Gw.setCell (Gw.setCell (Gw.setCell G.o ?_ _) ?_ _) ?_ _) ?_ _) ?_ _) _ _<;>exact Nat.le_refl _
    · have t2:decide (fr<0)=false:=by simpa using h1
      have wz:IntKind.i64.wrap (4294967296-(n:Int))=4294967296-(n:Int):=by rw [IntKind.wrap_i64];omega
      by_cases h2:4294967296-(n:Int)<fr
      · have t3:decide (4294967296-(n:Int)<fr)=true:=by simpa using h2
        have R:ag (fR eps fr f n 0 0 0 0 0 1):=.inr (.inl ⟨a,b,c,R0,fun q=>by omega,rfl,rfl,rfl,rfl,rfl,rfl⟩)
        clear R0 h1 h2;go_wp2_with fail;refine bodyPost_ret (v:=.tuple #[eC 0 0 0 0 0,AI 1]) (by simp [results,results73,go_sem,zl,z0,z1,z2,z3,z4]) rfl ⟨⟨0,0,0,0,0,1,rfl,R.o⟩,?_⟩
        refine Gw.alloc (Gw.setCell (Gw.setCell (Gw.setCell (Gw.setCell (Gw.setCell G.o ?_ _) ?_ _) ?_ _) ?_ _) ?_ _) _ _<;>exact Nat.le_refl _
      · have t3:decide (4294967296-(n:Int)<fr)=false:=by simpa using h2
        obtain ⟨A,rfl⟩:∃ A:Nat,a=A:=⟨a.toNat,by omega⟩
        obtain ⟨B,rfl⟩:∃ B:Nat,b=B:=⟨b.toNat,by omega⟩
        have T:Told eps f n A B c:=by
          rcases R0.cases with ⟨q,_⟩ | ⟨_,q⟩
          · exact absurd rfl q
          · exact q
        have B1:=T.low.b1;have n0:=T.n0;have cc:=(T.stays (by omega)).2
        have ee:=T.e1;have eh:=T.e2;clear T;obtain ⟨s,hs,NE⟩:=ZE (a:=A) (b:=B) (by omega) (by omega) (by omega)
        have Dw:ag _:=NE;obtain ⟨bk,off,rfl,hb,hc⟩:=(K'.o.gw G.o).cells n0;have c0:w1.cell? ⟨bk,off,none⟩=some (By (f 0)):=hc 0 n0;obtain ⟨f0,hf⟩:∃ f0,f 0=f0:=⟨_,rfl⟩;rw [hf] at c0;have wy:IntKind.i64.wrap (fr+c)=fr+c:=by rw [IntKind.wrap_i64];omega
        have wx:IntKind.i64.wrap (fr+(n:Int))=fr+(n:Int):=by rw [IntKind.wrap_i64];omega
        have R:ag (fR eps fr f n f0 s (floatOfInt .f64 (fr+c)) fr (fr+n) 0):=.inr (.inr ⟨A,B,c,R0,⟨by omega,by omega⟩,⟨by omega,by omega⟩,by rw [Int.toNat_natCast,Int.toNat_natCast];exact hs,hf.symm,rfl,rfl,rfl,rfl⟩)
        have bz:bk≠w.heap.size:=by
          intro q;obtain ⟨vu,tJ,e,eP,-⟩:=K'.o.cells n0;cases e;omega
        clear R0 hs hf hc NE h1 h2;go_wp2_with fail;refine (Dw.o _).mono ?_;rintro ex w2 ⟨rfl,rfl⟩;go_wp2_with fail;go_region
        all_goals go_wp2_with fail
        all_goals refine bodyPost_ret (v:=.tuple #[eC f0 s (floatOfInt .f64 (fr+c)) fr (fr+n),AI 0]) (by simp [results,results73,go_sem,zl,z0,z1,z2,z3,z4]) rfl ⟨⟨f0,s,floatOfInt .f64 (fr+c),fr,fr+n,0,rfl,R.o⟩,?_⟩
        all_goals (repeat (first | exact G.o | refine Gw.drew ?_ | refine Gw.drewN ?_ _ | refine Gw.alloc ?_ _ _ | refine Gw.setCell ?_ (Nat.le_refl _) _))
  · have t1:(er != 0)=true:=by simpa using h
    have R:ag (fR eps fr f n 0 0 0 0 0 er):=.inl ⟨a,b,c,R0,h,rfl,rfl,rfl,rfl,rfl⟩;clear R0 h;obtain ⟨z0,z1,z2,z3,z4⟩:=Z.o.cells;have zl:=Z.o.lt;have y0:=Z.o.fz 0;have y1:=Z.o.fz 1;have y2:=Z.o.fz 2;have y3:=Z.o.fz 3;have y4:=Z.o.fz 4;go_wp2_with fail;refine bodyPost_ret (v:=.tuple #[eC 0 0 0 0 0,AI er]) (by simp [results,results73,go_sem,zl,z0,z1,z2,z3,z4]) rfl ⟨⟨0,0,0,0,0,er,rfl,R.o⟩,?_⟩
    refine Gw.alloc (Gw.setCell (Gw.setCell (Gw.setCell (Gw.setCell (Gw.setCell G.o ?_ _) ?_ _) ?_ _) ?_ _) ?_ _) _ _<;>exact Nat.le_refl _
end Go.Proofs.YtcboobmfnmgldaaGreat
namespace Go.Proofs.YtcboobmfnmgldaaGreat
variable {eps:Int} {f:Nat->Int} {n:Nat}
theorem dP.err {a b c a' b' c' e e':Int} (h:dP eps f n a b c e) (h':dP eps f n a' b' c' e'):e=e':=(h.one h').2
variable {fr k F T:Int} {s ic:Nat}
theorem fR.one {k':Int} {s' LF:Nat} {F' T' er LG:Int} (h:fR eps fr f n k s ic F T er) (h':fR eps fr f n k' s' LF F' T' LG):(k=k'/\s=s'/\ic=LF/\F=F'/\T=T')/\er=LG:=by
  rcases h with ⟨a,b,c,o,ne,rfl,rfl,rfl,rfl,rfl⟩ | ⟨a,b,c,o,nb,rfl,rfl,rfl,rfl,rfl,rfl⟩ | ⟨a,b,c,o,nb,ab,hs,rfl,rfl,rfl,rfl,rfl⟩
  · rcases h' with ⟨a',b',c',o',ne',rfl,rfl,rfl,rfl,rfl⟩ | ⟨a',b',c',o',kB,_⟩ | ⟨a',b',c',o',kB,_⟩
    · exact ⟨⟨rfl,rfl,rfl,rfl,rfl⟩,o.err o'⟩
    · exact absurd (o.err o') ne
    · exact absurd (o.err o') ne
  · rcases h' with ⟨a',b',c',o',ne',_⟩ | ⟨a',b',c',o',kB,rfl,rfl,rfl,rfl,rfl,rfl⟩ | ⟨a',b',c',o',kB,_⟩
    · exact absurd (o'.err o) ne'
    · exact ⟨⟨rfl,rfl,rfl,rfl,rfl⟩,rfl⟩
    · exact absurd kB nb
  · rcases h' with ⟨a',b',c',o',ne',_⟩ | ⟨a',b',c',o',kB,_⟩ | ⟨a',b',c',o',kB,ab',gH,rfl,rfl,rfl,rfl,rfl⟩
    · exact absurd (o'.err o) ne'
    · exact absurd nb kB
    · obtain ⟨⟨rfl,rfl,rfl⟩,-⟩:=o.one o'
      have b0:0<b.toNat:=by
        rcases o.cases with ⟨q,_⟩ | ⟨_,q⟩
        · exact absurd rfl q
        · have:=q.low.b1;omega
      exact ⟨⟨rfl,hs.uniq gH b0,rfl,rfl,rfl⟩,rfl⟩
theorem ZG (k:Int) (sl ic:Nat) (fr to q:Int) (h:q<=k):cP k sl ic fr to q=cP k sl ic fr to k:=by
  unfold cP;rw [show (q-k).toNat=(k-k).toNat by omega]
def aA (f:Nat->Int) (q:Int):Nat->Nat
  | 0=>0
  | j+1=>aA f q j+(if f j<q then 1 else 0)
theorem nD (f:Nat->Int) (q:Int) (n:Nat):aA f q n<=n:=by
  induction n with
  | zero=>exact Nat.le_refl _
  | succ n ih=>show aA f q n+(if f n<q then 1 else 0)<=n+1;split<;>omega
theorem oV (u:Up f n) (q:Int):∀ j,j<=n->(∀ i,i<aA f q j->f i<q)/\(∀ i,aA f q j<=i->i<j->q<=f i):=by
  intro j;induction j with
  | zero=>intro _;exact ⟨fun i hi=>by simp [aA] at hi,fun i _ hi=>by omega⟩
  | succ j ih =>
    intro hj;obtain ⟨a,b⟩:=ih (by omega)
    have le:=nD f q j;have e:aA f q (j+1)=aA f q j+(if f j<q then 1 else 0):=rfl
    by_cases h:f j<q
    · rw [if_pos h] at e
      have full:aA f q j=j:=by
        by_cases c:aA f q j=j
        · exact c
        · have x:=b (aA f q j) (Nat.le_refl _) (by omega)
          have y:=u.le (show aA f q j<=j by omega) (by omega)
          omega
      rw [e,full];refine ⟨fun i hi=>?_,fun i h1 h2=>by omega⟩
      by_cases c:i=j
      · subst c;exact h
      · exact a i (by omega)
    · rw [if_neg h] at e
      rw [e,Nat.add_zero];refine ⟨a,fun i h1 h2=>?_⟩
      by_cases c:i=j
      · subst c;omega
      · exact b i h1 (by omega)
theorem ZH {sl:Nat} {to:Int} {N:Int} (h:cg sl ic fr to=0) (hn:(n:Int)=to-fr) (hk:f 0=k) (u:Up f n) (bd:∀ i,i<n->0<=f i/\f i<18446744073709551616) (N0:0<=N)
    (off:∀ i,i<n->-N<=cC k sl ic fr to f i/\cC k sl ic fr to f i<=N) (q:Int) (q1:q<18446744073709551616) (first:k<=q):-(N+1)<=cP k sl ic fr to q-(fr+aA f q n)/\cP k sl ic fr to q-(fr+aA f q n)<=N+1:=by
  obtain ⟨a,b,c,d,e⟩:=ma.1 h;have n0:0<n:=by omega
  have k0:0<=k:=hk▸(bd 0 n0).1;obtain ⟨c1,c2⟩:=oV u q n (Nat.le_refl _);have:=YZ (f:=f) (n:=n) (g:=fun x=>cP k sl ic fr to (min x 18446744073709551615)) (lo:=fr) (N:=N) n0 (fun x y _ hxy=>Y9 h k0 (by omega) (by omega)) (fun i hi=>u.le (Nat.zero_le i) hi)
    (fun x _=>by have:=zx (q:=min x 18446744073709551615) h k0 (by omega);omega) N0 (fun i hi=>by
      have o:=off i hi;have bi:=bd i hi;unfold cC at o;rw [show min (f i) 18446744073709551615=f i by omega]
      omega) q (aA f q n) (nD f q n) c1 c2 (by omega)
  simp only [show min q 18446744073709551615=q by omega] at this
  omega
open Go.RowKit
structure vv (k:Int) (sl ic:Nat) (fr to:Int):Prop where
  k0:0<=k
  k1:k<18446744073709551616
  s1:sl<18446744073709551616
  i1:ic<18446744073709551616
  f0:-9223372036854775808<=fr
  f1:fr<9223372036854775808
  t0:-9223372036854775808<=to
  t1:to<9223372036854775808
def ZI (ex:Ending) (eps fr:Int) (f:Nat->Int) (n:Nat):Prop:=∃ (k:Int) (s ic:Nat) (F T er:Int),ex=.returned (.tuple #[eC k s ic F T,AI er])/\fR eps fr f n k s ic F T er
def LH (ex:Ending) (k:Int) (sl ic:Nat) (fr to:Int) (n:Nat) (f:Nat->Int):Prop:=∃ N er:Int,ex=.returned (.tuple #[AI N,AI er])/\qL k sl ic fr to n f N er
structure gQ:Prop where
  check:∀ (k:Int) (sl ic:Nat) (fr to:Int),vv k sl ic fr to->∀ w:World,Calls prog 170 #[eC k sl ic fr to] w fun e w'=>e=.returned (AI (cg sl ic fr to))/\Gw w w'
  guess:∀ (k:Int) (sl ic:Nat) (fr to q:Int),vv k sl ic fr to->0<=q->q<18446744073709551616->∀ w:World,Calls prog 181 #[eC k sl ic fr to,By q] w fun e w'=>e=.returned (AI (cP k sl ic fr to q))/\Gw w w'
  off:∀ (k:Int) (sl ic:Nat) (fr to:Int) (ao:Option Addr) (n cp:Nat) (f:Nat->Int),vv k sl ic fr to->n*8<=140737488351232->n<=cp->∀ w:World,KS w ao n f->Calls prog 171 #[eC k sl ic fr to,.slice ao n cp] w fun e w'=>LH e k sl ic fr to n f/\Gw w w'
  of:∀ (eps fr:Int) (ao:Option Addr) (n cp:Nat) (f:Nat->Int),-9223372036854775808<=eps->eps<9223372036854775808->-9223372036854775808<=fr->fr<9223372036854775808->n<=2000000->n<=cp->∀ w:World,KS w ao n f->Calls prog 97 #[.slice ao n cp,AI eps,AI fr] w fun e w'=>ZI e eps fr f n/\Gw w w'
theorem ZJ (t:Int):floatOfInt .f64 t<18446744073709551616:=by
  obtain ⟨b,_,e⟩:=K7 t;rw [e];have:min b 9218868437227405312<=9218868437227405312:=Nat.min_le_right _ _;generalize min b 9218868437227405312=m at this;unfold Ieee.Format.word;split
  · show 9223372036854775808+m<_;omega
  · omega
theorem fR.ok {er:Int} (h:fR eps fr f n k s ic F T er) (hn:n<=2000000) (bd:∀ i,i<n->0<=f i/\f i<18446744073709551616):vv k s ic F T:=by
  rcases h with ⟨a,b,c,o,ne,rfl,rfl,rfl,rfl,rfl⟩ | ⟨a,b,c,o,nb,rfl,rfl,rfl,rfl,rfl,rfl⟩ | ⟨a,b,c,o,nb,ab,hs,rfl,rfl,rfl,rfl,rfl⟩
  · exact ⟨by decide,by decide,by decide,by decide,by decide,by decide,by decide,by decide⟩
  · exact ⟨by decide,by decide,by decide,by decide,by decide,by decide,by decide,by decide⟩
  · obtain ⟨er,_⟩:=Lt o (by omega) bd ab.1 ab.2 nb.1 nb.2 hs
    obtain ⟨_,_,_,sl,_⟩:=ma.1 er;have n0:0<n:=by
      rcases o.cases with ⟨q,_⟩ | ⟨_,q⟩
      · exact absurd rfl q
      · exact q.n0
    exact ⟨(bd 0 n0).1,(bd 0 n0).2,by omega,ZJ _,by omega,by omega,by omega,by omega⟩
def mh (e:Nat):Nat->Nat->Nat
  | 0,_=>0
  | g+1,n=>if n<1 then 0 else if n<=2*e-1 then 1 else mh e g (n/e+1)+1
variable {e:Nat}
theorem oW (he:2<=e) (hn:¬ n<=2*e-1):n/e+1<n:=by
  have h1:n/e*e<=n:=Nat.div_mul_le_self n e;have h2:n/e*2<=n/e*e:=Nat.mul_le_mul_left _ he;omega
theorem ZK (he:2<=e):∀ g g' n,n<=g->n<=g'->mh e g n=mh e g' n:=by
  intro g;induction g with
  | zero =>
    intro g' n h h';cases g' with
    | zero=>rfl
    | succ g' =>
                 have:n<1:=by omega
                 show 0=if n<1 then 0 else _
                 rw [if_pos this]
  | succ g ih =>
    intro g' n h h';cases g' with
    | zero =>
              have:n<1:=by omega
              show (if n<1 then 0 else _)=0
              rw [if_pos this]
    | succ g' =>
      show (if n<1 then 0 else if n<=2*e-1 then 1 else mh e g (n/e+1)+1)=(if n<1 then 0 else if n<=2*e-1 then 1 else mh e g' (n/e+1)+1)
      by_cases h1:n<1
      · rw [if_pos h1,if_pos h1]
      · rw [if_neg h1,if_neg h1]
        by_cases h2:n<=2*e-1
        · rw [if_pos h2,if_pos h2]
        · rw [if_neg h2,if_neg h2]
          have:=oW he h2
          rw [ih g' (n/e+1) (by omega) (by omega)]
def gR (e n:Nat):Nat:=mh e n n
theorem ZL (e:Nat):gR e 0=0:=rfl
theorem zC (h0:0<n) (h:n<=2*e-1):gR e n=1:=by
  cases n with
  | zero=>omega
  | succ n =>
              show (if n+1<1 then 0 else if n+1<=2*e-1 then 1 else _)=1
              rw [if_neg (by omega),if_pos h]
theorem tK (he:2<=e) (h:¬ n<=2*e-1):gR e n=gR e (n/e+1)+1:=by
  have d:=oW he h;cases n with
  | zero=>omega
  | succ n =>
    show (if n+1<1 then 0 else if n+1<=2*e-1 then 1 else mh e n ((n+1)/e+1)+1)=_
    rw [if_neg (by omega),if_neg h]
    unfold gR;rw [ZK he n ((n+1)/e+1) ((n+1)/e+1) (by omega) (Nat.le_refl _)]
theorem LJ (he:2<=e) (h:0<n):0<gR e n:=by
  by_cases k:n<=2*e-1
  · rw [zC h k];exact Nat.one_pos
  · rw [tK he k];omega
theorem LR (he:2<=e):∀ m n,n<=m->gR e n<=gR e m:=by
  intro m;induction m using Nat.strongRecOn with
  | ind m ih =>
    intro n h;by_cases h0:n=0
    · subst h0;rw [ZL];exact Nat.zero_le _
    · by_cases h1:n<=2*e-1
      · rw [zC (by omega) h1];exact LJ he (by omega)
      · have h2:¬ m<=2*e-1:=by omega
        rw [tK he h1,tK he h2];have:=ih (m/e+1) (oW he h2) (n/e+1) (by have:=Nat.div_le_div_right (c:=e) h;omega)
        omega
structure Sg where
  k:Int
  sl:Nat
  ic:Nat
  fr:Int
  te:Int
def aK:Sg:=⟨0,0,0,0,0⟩
def bf (l:List Sg) (i:Nat):Int:=(l.getD i aK).k
def oX (eps:Int) (f:Nat->Int) (i j:Nat) (s:Sg):Prop:=fR eps i (sh f i) (j-i) s.k s.sl s.ic s.fr s.te 0
variable {i:Nat}
theorem oX.one {j:Nat} {s s':Sg} (h:oX eps f i j s) (h':oX eps f i j s'):s=s':=by
  obtain ⟨⟨h1,h2,h3,h4,h5⟩,_⟩:=fR.one h h';cases s;cases s';simp only [Sg.mk.injEq];exact ⟨h1,h2,h3,h4,h5⟩
structure ZM (eps:Int) (f:Nat->Int) (i j:Nat) (s:Sg):Prop where
  k:s.k=f i
  fr:s.fr=i
  te:s.te=j
  er:cg s.sl s.ic s.fr s.te=0
  off:dI (cC s.k s.sl s.ic s.fr s.te (sh f i)) (j-i)<=eps
theorem oX.facts {j:Nat} {s:Sg} (h:oX eps f i j s) (hj:i<j) (hn:j<=n) (n1:n<=2000000) (bd:∀ t,t<n->0<=f t/\f t<18446744073709551616):ZM eps f i j s:=by
  rcases h with ⟨a,b,c,o,ne,_⟩ | ⟨a,b,c,o,nb,_,_,_,_,_,q⟩ | ⟨a,b,c,o,nb,ab,hs,hk,hi,hF,hT,_⟩
  · exact absurd rfl ne
  · cases q
  · have ZO:∀ t,t<j-i->0<=sh f i t/\sh f i t<18446744073709551616:=fun t ht=>bd (i+t) (by omega)
    obtain ⟨er,aw⟩:=Lt o (by omega) ZO ab.1 ab.2 nb.1 nb.2 hs
    have e1:2<=eps:=by
      rcases o.cases with ⟨q,_⟩ | ⟨_,q⟩
      · exact absurd rfl q
      · exact q.e1
    have nE:s.k=f i:=hk;refine ⟨nE,hF,?_,?_,?_⟩
    · rw [hT];omega
    · rw [hi,hF,hT];exact er
    · rw [hk,hi,hF,hT];exact Ls (by omega) _ aw
def cK (eps:Int) (f:Nat->Int) (n:Nat):Nat->List Sg->Prop
  | i,[]=>i=n
  | i,s::l=>∃ j,(i<j/\j<=n/\aY (eps-1) (sh f i) (aB (j-i))/\(j<n->¬ aY (eps-1) (sh f i) (aB (j+1-i))))/\oX eps f i j s/\cK eps f n j l
theorem cK.one:∀ {i:Nat} {l l':List Sg},cK eps f n i l->cK eps f n i l'->l=l':=by
  intro i l;induction l generalizing i with
  | nil =>
    intro l' h h';cases l' with
    | nil=>rfl
    | cons s l'=>obtain ⟨j,⟨a,b,_⟩,_⟩:=h';have:i=n:=h;omega
  | cons s l ih =>
    intro l' h h';cases l' with
    | nil=>obtain ⟨j,⟨a,b,_⟩,_⟩:=h;have:i=n:=h';omega
    | cons s' l' =>
      obtain ⟨j,⟨a,b,c,d⟩,g,r⟩:=h;obtain ⟨j',⟨a',b',c',d'⟩,g',r'⟩:=h';have e:j=j':=by
        rcases Nat.lt_trichotomy j j' with q | q | q
        · exact absurd (Ke c' (show j+1-i<=j'-i by omega)) (d (by omega))
        · exact q
        · exact absurd (Ke c (show j'+1-i<=j-i by omega)) (d' (by omega))
      subst e;rw [oX.one g g',ih r r']
theorem cK.ends (n1:n<=2000000) (bd:∀ t,t<n->0<=f t/\f t<18446744073709551616):∀ {i:Nat} {l:List Sg},cK eps f n i l->cV (eps-1) f n i (l.map fun s=>s.te.toNat):=by
  intro i l;induction l generalizing i with
  | nil=>exact fun h=>h
  | cons s l ih =>
    rintro ⟨j,⟨a,b,c,d⟩,g,r⟩;have F:=g.facts a b n1 bd;have e:s.te.toNat=j:=by rw [F.te];omega
    show cV (eps-1) f n i (s.te.toNat::l.map fun s=>s.te.toNat)
    rw [e];exact ⟨a,b,c,d,ih r⟩
def dx (n:Nat):Nat->List Sg->Bool
  | a,[]=>decide (a=n)
  | a,s::l=>decide (s.fr=a)&&decide ((a:Int)<s.te)&&decide (s.te<=n)&&dx n s.te.toNat l
variable {a:Nat} {l:List Sg}
theorem zD {s:Sg}:dx n a (s::l)=true↔s.fr=a/\(a:Int)<s.te/\s.te<=n/\dx n s.te.toNat l=true:=by
  simp [dx,and_assoc]
theorem Dx:dx n a []=true↔a=n:=by simp [dx]
theorem cK.tiles (n1:n<=2000000) (bd:∀ t,t<n->0<=f t/\f t<18446744073709551616):∀ {i:Nat} {l:List Sg},cK eps f n i l->dx n i l=true:=by
  intro i l;induction l generalizing i with
  | nil=>exact fun h=>Dx.2 h
  | cons s l ih =>
    rintro ⟨j,⟨a,b,c,d⟩,g,r⟩;have F:=g.facts a b n1 bd;have e:s.te.toNat=j:=by rw [F.te];omega
    refine zD.2 ⟨F.fr,by rw [F.te];omega,by rw [F.te];omega,?_⟩
    rw [e];exact ih r
def jh (eps:Int) (f:Nat->Int) (s:Sg):Int :=
  if cg s.sl s.ic s.fr s.te≠0 then cg s.sl s.ic s.fr s.te else if s.k≠f s.fr.toNat then 83 else if eps<dI (cC s.k s.sl s.ic s.fr s.te (sh f s.fr.toNat)) (s.te-s.fr).toNat then 85 else 0
theorem k6 {s:Sg}:jh eps f s=0↔cg s.sl s.ic s.fr s.te=0/\s.k=f s.fr.toNat/\dI (cC s.k s.sl s.ic s.fr s.te (sh f s.fr.toNat)) (s.te-s.fr).toNat<=eps:=by
  unfold jh;by_cases h:cg s.sl s.ic s.fr s.te=0
  · rw [if_neg (fun q=>q h)]
    by_cases h1:s.k=f s.fr.toNat
    · rw [if_neg (fun q=>q h1)]
      by_cases h2:eps<dI (cC s.k s.sl s.ic s.fr s.te (sh f s.fr.toNat)) (s.te-s.fr).toNat
      · rw [if_pos h2];constructor
        · intro q;cases q
        · rintro ⟨_,_,q⟩;omega
      · rw [if_neg h2];exact ⟨fun _=>⟨h,h1,by omega⟩,fun _=>rfl⟩
    · rw [if_pos h1];constructor
      · intro q;cases q
      · rintro ⟨_,q,_⟩;exact absurd q h1
  · rw [if_pos h];constructor
    · intro q;exact absurd q h
    · rintro ⟨q,_⟩;exact absurd q h
def dW (eps:Int) (f:Nat->Int):List Sg->Int
  | []=>0
  | s::l=>if jh eps f s≠0 then jh eps f s else dW eps f l
theorem Dy:dW eps f l=0↔∀ s∈l,jh eps f s=0:=by
  induction l with
  | nil=>simp [dW]
  | cons s l ih =>
    unfold dW;by_cases h:jh eps f s=0
    · rw [if_neg (fun q=>q h),ih];simp [h]
    · rw [if_pos h];constructor
      · intro q;exact absurd q h
      · intro q;exact absurd (q s (by simp)) h
theorem cK.right (n1:n<=2000000) (bd:∀ t,t<n->0<=f t/\f t<18446744073709551616):∀ {i:Nat} {l:List Sg},cK eps f n i l->∀ s∈l,jh eps f s=0:=by
  intro i l;induction l generalizing i with
  | nil=>intro _ s hs;cases hs
  | cons s l ih =>
    rintro ⟨j,⟨a,b,c,d⟩,g,r⟩ s' gH;rcases List.mem_cons.1 gH with rfl | q
    · have F:=g.facts a b n1 bd
      have e:s'.fr.toNat=i:=by rw [F.fr];omega
      refine k6.2 ⟨F.er,by rw [e];exact F.k,?_⟩
      rw [e,show (s'.te-s'.fr).toNat=j-i by rw [F.te,F.fr];omega]
      exact F.off
    · exact ih r s' q
def lj (eps:Int):(Nat->Int)->Nat->List (List Sg)->Int
  | _,_,[]=>0
  | f,n,l::r=>if (dx n 0 l&&!l.isEmpty)=false then 82 else if dW eps f l≠0 then dW eps f l else if r=[] then (if l.length=1 then 0 else 84) else lj eps (bf l) l.length r
def cQ (eps:Int):(Nat->Int)->Nat->List (List Sg)->Prop
  | _,n,[]=>n=0
  | f,n,l::r=>0<n/\cK eps f n 0 l/\(if l.length=1 then r=[] else cQ eps (bf l) l.length r)
theorem nF (u:Up f n):∀ {l:List Sg} {a:Nat},dx n a l=true->(∀ s∈l,s.k=f s.fr.toNat)->Up (bf l) l.length/\(l≠[]->bf l 0=f a/\a<n)/\∀ t,t<l.length->∃ i,a<=i/\i<n/\bf l t=f i:=by
  intro l;induction l with
  | nil=>intro a h _;exact ⟨fun j hj=>by simp at hj,fun q=>absurd rfl q,fun t ht=>by simp at ht⟩
  | cons s l ih =>
    intro a h hk;obtain ⟨h1,h2,h3,h4⟩:=zD.1 h;obtain ⟨u1,u2,u3⟩:=ih h4 (fun s hs=>hk s (List.mem_cons_of_mem _ hs))
    have k0:s.k=f a:=by rw [hk s (by simp),h1];congr 1
    have an:a<n:=by omega
    refine ⟨fun j hj=>?_,fun _=>⟨k0,an⟩,fun t ht=>?_⟩
    · cases j with
      | zero =>
        have ne:l≠[]:=fun q=>by subst q;simp at hj
        obtain ⟨e,lt⟩:=u2 ne;show s.k<bf l 0;rw [k0,e];exact u.lt (by omega) lt
      | succ j=>exact u1 j (by simpa using hj)
    · cases t with
      | zero=>exact ⟨a,Nat.le_refl _,an,k0⟩
      | succ t=>obtain ⟨i,i1,i2,i3⟩:=u3 t (by simpa using ht);exact ⟨i,by omega,i2,i3⟩
theorem cK.keys (n1:n<=2000000) (bd:∀ t,t<n->0<=f t/\f t<18446744073709551616) (h:cK eps f n i l):∀ s∈l,s.k=f s.fr.toNat:=fun s hs=>(k6.1 (h.right n1 bd s hs)).2.1
theorem zE (bd:∀ t,t<n->0<=f t/\f t<18446744073709551616) (h:∀ t,t<l.length->∃ i,0<=i/\i<n/\bf l t=f i):∀ t,t<l.length->0<=bf l t/\bf l t<18446744073709551616:=by
  intro t ht;obtain ⟨i,_,i2,i3⟩:=h t ht;rw [i3];exact bd i i2
theorem cK.len (n1:n<=2000000) (bd:∀ t,t<n->0<=f t/\f t<18446744073709551616) (h:cK eps f n i l):i+l.length<=n:=by
  have:=(h.ends n1 bd).len
  simpa using this
theorem cK.some (h:cK eps f n i l) (hi:i<n):l≠[]:=by
  rintro rfl;have:i=n:=h;omega
theorem cQ.one:∀ {L L':List (List Sg)} {f:Nat->Int} {n:Nat},cQ eps f n L->cQ eps f n L'->L=L':=by
  intro L;induction L with
  | nil =>
    intro L' f n h h';cases L' with
    | nil=>rfl
    | cons l r=>have:=h'.1;have h0:n=0:=h;omega
  | cons l r ih =>
    intro L' f n h h';cases L' with
    | nil=>have:=h.1;have h0:n=0:=h';omega
    | cons l' r' =>
      obtain ⟨a,b,c⟩:=h;obtain ⟨a',b',c'⟩:=h';obtain rfl:=b.one b';by_cases q:l.length=1
      · rw [if_pos q] at c c';rw [c,c']
      · rw [if_neg q] at c c';rw [ih c c']
theorem cQ.chk:∀ {L:List (List Sg)} {f:Nat->Int} {n:Nat},n<=2000000->(∀ t,t<n->0<=f t/\f t<18446744073709551616)->Up f n->cQ eps f n L->lj eps f n L=0:=by
  intro L;induction L with
  | nil=>intro f n _ _ _ _;rfl
  | cons l r ih =>
    intro f n n1 bd u h;obtain ⟨a,b,c⟩:=h;have tl:=b.tiles n1 bd;have ne:=b.some a;have rt:=Dy.2 (b.right n1 bd);show (if (dx n 0 l&&!l.isEmpty)=false then 82 else if dW eps f l≠0 then dW eps f l else if r=[] then (if l.length=1 then 0 else 84) else lj eps (bf l) l.length r)=0
    rw [if_neg (by rw [tl];simp [ne]),if_neg (fun q=>q rt)]
    by_cases q:l.length=1
    · rw [if_pos q] at c
      rw [if_pos c,if_pos q]
    · rw [if_neg q] at c
      have r0:r≠[]:=by
        rintro rfl;have:l.length=0:=c;exact ne (List.eq_nil_of_length_eq_zero this)
      rw [if_neg r0];obtain ⟨u1,_,u3⟩:=nF u tl (b.keys n1 bd);have:=b.len n1 bd;exact ih (by omega) (zE bd u3) u1 c
theorem cK.count (e1:2<=eps) (n0:0<n) (n1:n<=2000000) (bd:∀ t,t<n->0<=f t/\f t<18446744073709551616) (u:Up f n) (h:cK eps f n 0 l):((l.length:Int)-1)*(2*eps-1)+1<=n:=by
  have:=(h.ends n1 bd).count (by omega) u n0
  rw [List.length_map,show 2*(eps-1)+1=2*eps-1 by omega] at this
  simpa using this
theorem cK.few (e1:2<=eps) (n0:0<n) (n1:n<=2000000) (bd:∀ t,t<n->0<=f t/\f t<18446744073709551616) (u:Up f n) (h:cK eps f n 0 l):l.length<=n/eps.toNat+1/\(l.length≠1->¬ n<=2*eps.toNat-1):=by
  have c:=h.count e1 n0 n1 bd u;have l0:0<l.length:=List.length_pos_iff.2 (h.some n0);obtain ⟨e,he⟩:∃ e:Nat,eps=e:=⟨eps.toNat,by omega⟩
  subst he;obtain ⟨m,hm⟩:∃ m,l.length=m+1:=⟨l.length-1,by omega⟩
  rw [hm] at c ⊢;rw [show ((m+1:Nat):Int)-1=m by omega] at c
  rw [Int.toNat_natCast];have c':m*(2*e-1)+1<=n:=by
    have:((m*(2*e-1)+1:Nat):Int)<=n:=by
      rw [Int.natCast_add,Int.natCast_mul,show ((2*e-1:Nat):Int)=2*(e:Int)-1 by omega]
      exact c
    omega
  refine ⟨?_,fun q=>?_⟩
  · have:m<=n/e:=by
      rw [Nat.le_div_iff_mul_le (by omega)]
      have:m*e<=m*(2*e-1):=Nat.mul_le_mul_left _ (by omega)
      omega
    omega
  · have m1:1<=m:=by omega
    have:1*(2*e-1)<=m*(2*e-1):=Nat.mul_le_mul_right _ m1
    omega
theorem cQ.low (e1:2<=eps):∀ {L:List (List Sg)} {f:Nat->Int} {n:Nat},n<=2000000->(∀ t,t<n->0<=f t/\f t<18446744073709551616)->Up f n->cQ eps f n L->L.length<=gR eps.toNat n:=by
  intro L;induction L with
  | nil=>intro f n _ _ _ _;exact Nat.zero_le _
  | cons l r ih =>
    intro f n n1 bd u h;obtain ⟨a,b,c⟩:=h;have e2:2<=eps.toNat:=by omega
    by_cases q:l.length=1
    · rw [if_pos q] at c
      subst c;exact LJ e2 a
    · rw [if_neg q] at c
      obtain ⟨k1,k2⟩:=b.few e1 a n1 bd u;obtain ⟨u1,_,u3⟩:=nF u (b.tiles n1 bd) (b.keys n1 bd);have ln:=b.len n1 bd;have:=ih (by omega) (zE bd u3) u1 c
      rw [tK e2 (k2 q)];have:=LR e2 _ _ k1;simp only [List.length_cons];omega
theorem cQ.none {L:List (List Sg)} (h:cQ eps f n L):L=[]↔n=0:=by
  cases L with
  | nil=>exact ⟨fun _=>h,fun _=>rfl⟩
  | cons l r=>exact ⟨(fun q=>by cases q),fun q=>by have:=h.1;omega⟩
theorem Dz (u:Up f n) (q:Int) (c:Nat) (hc:c<=n) (hl:∀ i,i<c->f i<q) (hr:∀ i,c<=i->i<n->q<=f i):aA f q n=c:=by
  obtain ⟨a,b⟩:=oV u q n (Nat.le_refl _);have le:=nD f q n;rcases Nat.lt_trichotomy (aA f q n) c with h | h | h
  · have:=hl _ h;have:=b _ (Nat.le_refl _) (by omega);omega
  · exact h
  · have:=a c h;have:=hr c (Nat.le_refl _) (by omega);omega
theorem DA:∀ {l:List Sg} {a:Nat},dx n a l=true->∀ t,t<l.length->(a:Int)<=(l.getD t aK).fr/\(l.getD t aK).fr<(l.getD t aK).te/\(l.getD t aK).te<=n/\(t=0->(l.getD t aK).fr=a)/\(t+1<l.length->(l.getD (t+1) aK).fr=(l.getD t aK).te)/\(t+1=l.length->(l.getD t aK).te=n):=by
  intro l;induction l with
  | nil=>intro a _ t ht;simp at ht
  | cons s l ih =>
    intro a h t ht;obtain ⟨h1,h2,h3,h4⟩:=zD.1 h;cases t with
    | zero =>
      refine ⟨by show (a:Int)<=s.fr;omega,by show s.fr<s.te;omega,h3,fun _=>h1,fun q=>?_,fun q=>?_⟩
      · have:=(ih h4 0 (by simpa using q)).2.2.2.1 rfl
        show (l.getD 0 aK).fr=s.te;omega
      · have:l=[]:=by simpa using q
        subst this;have:=Dx.1 h4;show s.te=n;omega
    | succ t =>
      obtain ⟨q1,q2,q3,q4,q5,q6⟩:=ih h4 t (by simpa using ht)
      refine ⟨?_,q2,q3,fun q=>(by cases q),fun q=>q5 (by simpa using q),fun q=>q6 (by simpa using q)⟩
      show (a:Int)<=(l.getD t aK).fr;omega
theorem ZP (u:Up f n) (bd:∀ t,t<n->0<=f t/\f t<18446744073709551616) (tl:dx n 0 l=true) (ok:∀ s∈l,jh eps f s=0) (q:Int) (q1:q<18446744073709551616) (t:Nat) (ht:t<l.length) (pick:t=0\/bf l t<=q) (last:∀ t',t<t'->t'<l.length->q<bf l t') (s:Sg) (hs:l.getD t aK=s) :
    (-(eps+1)<=cP s.k s.sl s.ic s.fr s.te q-aA f q n/\cP s.k s.sl s.ic s.fr s.te q-aA f q n<=eps+1)/\((∃ i,i<n/\f i=q)->-eps<=cP s.k s.sl s.ic s.fr s.te q-aA f q n/\cP s.k s.sl s.ic s.fr s.te q-aA f q n<=eps):=by
  have T:=DA tl t ht;have mem:s∈l:=by
    rw [<-hs,List.getD_eq_getElem?_getD,List.getElem?_eq_getElem ht];exact List.getElem_mem ht
  obtain ⟨er,hk,off⟩:=k6.1 (ok s mem);rw [hs] at T;obtain ⟨T1,T2,T3,T4,T5,T6⟩:=T;obtain ⟨a,ha⟩:∃ a:Nat,s.fr=a:=⟨s.fr.toNat,by omega⟩
  obtain ⟨b,hb⟩:∃ b:Nat,s.te=b:=⟨s.te.toNat,by omega⟩
  have ab:a<b:=by omega
  have bn:b<=n:=by omega
  have qO:s.fr.toNat=a:=by omega
  rw [qO] at hk off;rw [show (s.te-s.fr).toNat=b-a by omega] at off
  have ZQ:∀ i,i<b-a->0<=sh f a i/\sh f a i<18446744073709551616:=fun i hi=>bd (a+i) (by omega)
  have su:Up (sh f a) (b-a):=oJ u bn;have k0:0<=s.k:=by rw [hk];exact (bd a (by omega)).1
  obtain ⟨w0,w1⟩:=Lr (cC s.k s.sl s.ic s.fr s.te (sh f a)) (b-a);generalize dI (cC s.k s.sl s.ic s.fr s.te (sh f a)) (b-a)=N at off w0 w1;have vw:∀ i,b<=i->i<n->q<f i:=fun i h1 h2=>by
    by_cases c:t+1<l.length
    · have e:=T5 c
      have m':l.getD (t+1) aK∈l:=by
        rw [List.getD_eq_getElem?_getD,List.getElem?_eq_getElem c];exact List.getElem_mem c
      have k':=(k6.1 (ok _ m')).2.1;have lt:=last (t+1) (by omega) c
      have e2:bf l (t+1)=f b:=by
        show (l.getD (t+1) aK).k=f b;rw [k',e];congr 1;omega
      rw [e2] at lt;have:=u.le h1 h2;omega
    · have:=T6 (by omega)
      omega
  by_cases c:s.k<=q
  ·
    have P:=ZH er (show ((b-a:Nat):Int)=s.te-s.fr by omega) (show sh f a 0=s.k from hk.symm) su ZQ w0 w1 q q1 c
    have le:=nD (sh f a) q (b-a);obtain ⟨c1,c2⟩:=oV su q (b-a) (Nat.le_refl _);have cn:aA f q n=a+aA (sh f a) q (b-a):=by
      refine Dz u q _ (by omega) (fun i hi=>?_) (fun i h1 h2=>?_)
      · by_cases x:i<a
        · have:=u.lt x (show a<n by omega)
          omega
        · have:=c1 (i-a) (by omega)
          have e:sh f a (i-a)=f i:=by show f (a+(i-a))=f i;rw [show a+(i-a)=i by omega]
          rw [e] at this;exact this
      · by_cases x:i<b
        · have:=c2 (i-a) (by omega) (by omega)
          have e:sh f a (i-a)=f i:=by show f (a+(i-a))=f i;rw [show a+(i-a)=i by omega]
          rw [e] at this;exact this
        · have:=vw i (by omega) h2;omega
    rw [cn];refine ⟨by omega,?_⟩
    rintro ⟨i,hi,hq⟩;have ia:a<=i:=by
      rcases Nat.lt_or_ge i a with x | x
      · have:=u.lt x (show a<n by omega);omega
      · exact x
    have ib:i<b:=by
      rcases Nat.lt_or_ge i b with x | x
      · exact x
      · have:=vw i x hi;omega
    have e:sh f a (i-a)=q:=by show f (a+(i-a))=q;rw [show a+(i-a)=i by omega];exact hq
    have cc:aA (sh f a) q (b-a)=i-a:=by
      refine Dz su q _ (by omega) (fun j hj=>?_) (fun j h1 h2=>?_)
      · rw [<-e];exact su.lt hj (by omega)
      · rw [<-e];exact su.le h1 h2
    have W:=w1 (i-a) (by omega)
    unfold cC at W;rw [e] at W;rw [cc];omega
  ·
    have t0:t=0:=by
      rcases pick with x | x
      · exact x
      · have:bf l t=s.k:=by show (l.getD t aK).k=s.k;rw [hs]
        omega
    have a0:a=0:=by have:=T4 t0;omega
    have n0:0<n:=by omega
    have all:∀ i,i<n->q<f i:=fun i hi=>by
      have:=u.le (Nat.zero_le i) hi
      rw [a0] at hk;omega
    have cn:aA f q n=0:=Dz u q 0 (Nat.zero_le _) (fun i hi=>by omega) (fun i _ hi=>by have:=all i hi;omega)
    rw [cn,ZG _ _ _ _ _ _ (by omega)]
    have W:=w1 0 (by omega)
    unfold cC at W;have e:sh f a 0=s.k:=hk.symm;rw [e] at W;refine ⟨by omega,?_⟩
    rintro ⟨i,hi,hq⟩;have:=all i hi;omega
def iA (n:Nat):Int->List Sg->Bool
  | a,[]=>decide (a=n)
  | a,s::l=>decide (s.fr=a)&&decide (a<s.te)&&iA n s.te l
theorem ZR:∀ {l:List Sg} {a:Int},iA n a l=true->a<=n:=by
  intro l;induction l with
  | nil =>
           intro a h;have:a=n:=by simpa [iA] using h
           omega
  | cons s l ih =>
    intro a h;have h':(s.fr=a/\a<s.te)/\iA n s.te l=true:=by simpa [iA] using h
    have:=ih h'.2
    omega
theorem ZS:∀ (l:List Sg) (a:Nat),iA n a l=dx n a l:=by
  intro l;induction l with
  | nil =>
           intro a;show decide ((a:Int)=n)=decide (a=n);by_cases h:a=n
           · simp [h]
           · rw [decide_eq_false (by omega),decide_eq_false h]
  | cons s l ih =>
    intro a;have e:iA n a (s::l)=true↔dx n a (s::l)=true:=by
      rw [zD];have u:iA n a (s::l)=true↔(s.fr=a/\(a:Int)<s.te)/\iA n s.te l=true:=by simp [iA]
      rw [u];constructor
      · rintro ⟨⟨h1,h2⟩,h3⟩
        have le:=ZR h3;obtain ⟨t,ht⟩:∃ t:Nat,s.te=t:=⟨s.te.toNat,by omega⟩
        rw [ht] at h3 ⊢;rw [ht] at h2 le;rw [Int.toNat_natCast];exact ⟨h1,h2,le,by rw [<-ih t];exact h3⟩
      · rintro ⟨h1,h2,h3,h4⟩
        obtain ⟨t,ht⟩:∃ t:Nat,s.te=t:=⟨s.te.toNat,by omega⟩
        rw [ht,Int.toNat_natCast] at h4;rw [ht] at h2 ⊢;exact ⟨⟨h1,h2⟩,by rw [ih t];exact h4⟩
    cases h1:iA n a (s::l) with
    | true=>exact (e.1 h1).symm
    | false =>
      cases h2:dx n a (s::l) with
      | false=>rfl
      | true=>have:=e.2 h2;rw [h1] at this;cases this
theorem DB {a:Int} {s:Sg}:iA n a (s::l)=(decide (s.fr=a)&&decide (a<s.te)&&iA n s.te l):=rfl
structure zF (w:World) (b off:Nat) (s:Sg):Prop where
  c0:w.cell? ⟨b,off,none⟩=some (By s.k)
  c1:w.cell? ⟨b,off+1,none⟩=some (.float .f64 s.sl)
  c2:w.cell? ⟨b,off+2,none⟩=some (.float .f64 s.ic)
  c3:w.cell? ⟨b,off+3,none⟩=some (AI s.fr)
  c4:w.cell? ⟨b,off+4,none⟩=some (AI s.te)
variable {w w':World} {b:Nat}
theorem zF.gw {off:Nat} {s:Sg} (h:zF w b off s) (hb:b<w.heap.size) (g:Gw w w'):zF w' b off s :=
  ⟨(g.cell _ _ hb).trans h.c0,(g.cell _ _ hb).trans h.c1,(g.cell _ _ hb).trans h.c2,(g.cell _ _ hb).trans h.c3,(g.cell _ _ hb).trans h.c4⟩
abbrev Sg.ok (s:Sg):Prop:=vv s.k s.sl s.ic s.fr s.te
abbrev LS (s:Sg):Value:=eC s.k s.sl s.ic s.fr s.te
structure GS (w:World) (ao:Option Addr) (l:List Sg):Prop where
  cells:0<l.length->∃ b off,ao=some ⟨b,off,none⟩/\b<w.heap.size/\∀ i,i<l.length->zF w b (off+i*5) (l.getD i aK)
  ok:∀ i,i<l.length->(l.getD i aK).ok
variable {ao:Option Addr}
theorem GS.gw (h:GS w ao l) (g:Gw w w'):GS w' ao l :=
  ⟨fun h0=>by
    obtain ⟨b,off,e,hb,hc⟩:=h.cells h0;exact ⟨b,off,e,Nat.lt_of_lt_of_le hb g.size,fun i hi=>(hc i hi).gw hb g⟩,h.ok⟩
structure VS (w:World) (ao:Option Addr) (L:List (List Sg)):Prop where
  cells:0<L.length->∃ b off,ao=some ⟨b,off,none⟩/\b<w.heap.size/\∀ i,i<L.length->∃ bo c,w.cell? ⟨b,off+i,none⟩=some (.slice bo (L.getD i []).length c)/\(L.getD i []).length<=c/\(bo=none->(L.getD i []).length=0/\c=0)/\GS w bo (L.getD i [])
theorem VS.gw {L:List (List Sg)} (h:VS w ao L) (g:Gw w w'):VS w' ao L :=
  ⟨fun h0=>by
    obtain ⟨b,off,e,hb,hc⟩:=h.cells h0;refine ⟨b,off,e,Nat.lt_of_lt_of_le hb g.size,fun i hi=>?_⟩
    obtain ⟨bo,c,h1,h2,h3,h4⟩:=hc i hi;exact ⟨bo,c,(g.cell _ _ hb).trans h1,h2,h3,h4.gw g⟩⟩
theorem LZ (h:GS w ao l):∀ t,t<l.length->0<=bf l t/\bf l t<18446744073709551616:=fun t ht=>⟨(h.ok t ht).k0,(h.ok t ht).k1⟩
theorem ZT (ao:Option Addr) (c:Nat) (l:List Sg) (hl:l.length<=4000000) (w:World) (h:GS w ao l) :
    Calls prog 74 #[.slice ao l.length c] w fun e w'=>(∃ b cap,e=.returned (.slice (some ⟨b,0,none⟩) l.length cap)/\w.heap.size<=b/\l.length<=cap/\KS w' (some ⟨b,0,none⟩) l.length (bf l))/\Gw w w':=by
  have HG:ag _:=h;clear h;obtain ⟨n,hn⟩:∃ n,l.length=n:=⟨_,rfl⟩;have LN:ag _:=hn;rw [hn] at hl;rw [hn];clear hn;obtain ⟨ii,aQ,hz,hs,aR⟩:=info_parts qv;have R3:ag ((w.alloc (.cells #[] 42)).ownsRow w.heap.size 42 1 (.slice (some ⟨w.heap.size,0,none⟩) 0 0) 0 ((List.range 0).map fun j=>Value.int .u64 (bf l j))):=World.ownsRow_made w #[] 0 (Nat.le_refl _) (Nat.zero_le _) rfl
  have G3:ag (Gw w (w.alloc (.cells #[] 42))):=(Gw.refl w).alloc _ _;have B3:ag (w.heap.size<=w.heap.size):=Nat.le_refl _;go_enter func74,ntmps74;go_wp2_with fail;generalize w.alloc (.cells #[] 42)=w3 at R3 G3 ⊢;go_loopg [3,4] n (fun gg s3 s4 wr=>∃ i b cap:Nat,s3=.slice (some ⟨b,0,none⟩) i cap/\s4=AI i/\i<=n/\n-i<=gg/\ag (w.heap.size<=b)/\ag (wr.ownsRow w.heap.size 42 1 (.slice (some ⟨b,0,none⟩) i cap) i ((List.range i).map fun j=>Value.int .u64 (bf l j)))/\ag (Gw w wr))
  case atStart=>exact ⟨0,w.heap.size,0,rfl,rfl,Nat.zero_le _,by omega,B3,R3,G3⟩
  case round =>
    clear R3 G3 B3;obtain ⟨i,b,cap,rfl,rfl,h1,h2,BW,R,G⟩:=hrel;by_cases ar:i<n
    · obtain ⟨bk,off,rfl,fT,hc⟩:=(HG.o.gw G.o).cells (by rw [LN.o];omega)
      have q1:=(hc i (by rw [LN.o];exact ar)).c0
      obtain ⟨fi,eF⟩:∃ y,bf l i=y:=⟨_,rfl⟩;have FI:ag _:=eF;have q2:wr.cell? ⟨bk,off+i*5,none⟩=some (By fi):=by rw [<-eF];exact q1
      clear hc eF q1;have z0:=G.o.size;go_wp2_with (at_builtin;refine wpList_append_own _ rfl _ _ 83 rfl w.heap.size 42 ii (By 0) 1 8 underlying83 aQ hz hs aR rfl (by decide) _ i _ rfl (R.o.alloc _) ⟨wr.heap.size,0,none⟩ 1 1 [By fi] rfl rfl (uN wr fi) (ints_oneCell .u64 [fi]) (by simp only [maxLen];omega) (by omega) (by simp;omega) ?_)
      intro v' w5 zG mj L9;obtain ⟨b5,dJ,rfl,fI,_,_⟩:=dh zG (by simpa using L9)
      have R5:ag (w5.ownsRow w.heap.size 42 1 (.slice (some ⟨b5,0,none⟩) (i+1) dJ) (i+1) ((List.range (i+1)).map fun j=>Value.int .u64 (bf l j))):=by
        have:=zG
        rw [<-FI.o] at this;rw [List.range_succ,List.map_append];exact this
      have G5:ag (Gw w w5):=(G.o.alloc _ _).grown mj (fun k hk=>by cases hk;exact BW.o)
      have B5:ag _:=fI;clear zG mj L9 R G BW fI q2 FI;go_wp2_with fail;go_roundg (n-(i+1))
      case measure=>omega
      case rel=>exact ⟨i+1,b5,dJ,rfl,by go_num,by omega,Nat.le_refl _,B5,R5,G5⟩
    · have ei:i=n:=by omega
      subst ei;have K4:ag (KS wr (some ⟨b,0,none⟩) i (bf l)):=yU R.o (Nat.le_refl _) (fun j hj=>by simp [hj]) (fun j hj=>LZ HG.o j (by rw [LN.o];exact hj))
      obtain ⟨_,_,ev,_,ic,_⟩:=dh R.o (by simp)
      cases ev
      clear R;go_wp2_with fail;go_ret;exact ⟨⟨b,cap,rfl,BW.o,ic,K4.o⟩,G.o⟩
theorem Ma (h:i<l.length):l.drop i=l.getD i aK::l.drop (i+1):=by
  rw [List.drop_eq_getElem_cons h,List.getD_eq_getElem?_getD,List.getElem?_eq_getElem h];rfl
def mo (n eps:Int):Int:=if 2<=eps/\eps<=64/\1<=n then (gR eps.toNat n.toNat:Nat) else 0
theorem Mb (he:2<=e):∀ n,gR e n<=n:=by
  intro n;induction n using Nat.strongRecOn with
  | ind n ih =>
    by_cases h0:n=0
    · subst h0;exact Nat.le_refl _
    · by_cases h1:n<=2*e-1
      · rw [zC (by omega) h1];omega
      · rw [tK he h1]
        have:=ih _ (oW he h1)
        have:=oW he h1
        omega
end Go.Proofs.YtcboobmfnmgldaaGreat
