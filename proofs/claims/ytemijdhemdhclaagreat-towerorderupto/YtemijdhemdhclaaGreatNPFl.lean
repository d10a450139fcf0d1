/- Floats as whole numbers of 2^-1074: the ladder of finite floats, and which rung is nearest to a fraction: no Go in it. -/
import Derived.Laws.FloatArith
set_option linter.unusedVariables false
namespace Go.Proofs.YtemijdhemdhclaaGreat
open Ieee
def V (b:Nat):Nat:=if b<4503599627370496 then b else (4503599627370496+b%4503599627370496)*2^(b/4503599627370496-1)
theorem V_form (e m:Nat) (h:m<=9007199254740992) (h':4503599627370496<=m\/e=0):V (e*4503599627370496+m)=m*2^e:=by
 unfold V;by_cases c:m<4503599627370496
 ·obtain rfl:e=0:=by omega
  rw [if_pos (by omega)];simp
 ·rw [if_neg (by omega)]
  by_cases k:m=9007199254740992
  ·have q:(e*4503599627370496+m)/4503599627370496=e+2:=by omega
   have r:(e*4503599627370496+m)%4503599627370496=0:=by omega
   rw [q,r,k,show e+2-1=e+1 from rfl,Nat.pow_succ];omega
  ·have q:(e*4503599627370496+m)/4503599627370496=e+1:=by omega
   have r:4503599627370496+(e*4503599627370496+m)%4503599627370496=m:=by omega
   rw [q,r,show e+1-1=e from rfl]
theorem form (b:Nat):∃ e m,b=e*4503599627370496+m/\m<9007199254740992/\(4503599627370496<=m\/e=0)/\e=b/4503599627370496-1:=by
 refine ⟨b/4503599627370496-1,b-(b/4503599627370496-1)*4503599627370496,?_,?_,?_,rfl⟩<;>omega
theorem V_step (b:Nat):V (b+1)=V b+2^(b/4503599627370496-1):=by
 obtain ⟨e,m,hb,h1,h2,he⟩:=form b;have a:=V_form e m (by omega) h2
 have c:=V_form e (m+1) (by omega) (by omega)
 rw [<-he,hb,Nat.add_assoc,a,c,Nat.add_mul,Nat.one_mul]
theorem V_succ (b:Nat):V b<V (b+1):=by
 rw [V_step];have:=Nat.two_pow_pos (b/4503599627370496-1);omega
theorem V_lt {a b:Nat} (h:a<b):V a<V b:=by
 induction b with
 | zero=>omega
 | succ n ih =>
  have:=V_succ n
  by_cases k:a=n
  ·subst k;exact this
  ·have:=ih (by omega);omega
theorem V_le {a b:Nat} (h:a<=b):V a<=V b:=by
 by_cases k:a=b
 ·subst k;exact Nat.le_refl _
 ·exact Nat.le_of_lt (V_lt (by omega))
theorem V_le_iff {a b:Nat}:V a<=V b↔a<=b :=
 ⟨fun h=>by
  by_cases k:a<=b
  ·exact k
  ·have:=V_lt (Nat.lt_of_not_le k);omega,V_le⟩
theorem V_inj {a b:Nat} (h:V a=V b):a=b:=by
 have h1:a<=b:=V_le_iff.1 (by omega)
 have h2:b<=a:=V_le_iff.1 (by omega)
 omega
theorem V_zero:V 0=0:=rfl
structure Nr (x y b:Nat):Prop where
 lo:(V (b-1)+V b)*y<=2*x
 hi:2*x<=(V b+V (b+1))*y
 loe:(V (b-1)+V b)*y=2*x->b%2=0
 hie:2*x=(V b+V (b+1))*y->b%2=0
theorem mul_mid {A B x y x' y':Nat} (h1:A*y<=2*x) (h2:2*x'<=B*y') (h:x*y'<=x'*y) (hB:B<=A) (hy:0<y) (hy':0<y') :
  A=B/\A*y=2*x/\2*x'=B*y':=by
 have a1:A*y*y'<=2*(x*y'):=by rw [<-Nat.mul_assoc];exact Nat.mul_le_mul_right _ h1
 have a2:2*(x'*y)<=B*y'*y:=by rw [<-Nat.mul_assoc];exact Nat.mul_le_mul_right _ h2
 have a3:B*(y'*y)<=A*(y'*y):=Nat.mul_le_mul_right _ hB;rw [Nat.mul_assoc,Nat.mul_comm y y'] at a1;rw [Nat.mul_assoc] at a2;have e:A*(y'*y)=B*(y'*y):=by omega
 have hAB:A=B:=Nat.eq_of_mul_eq_mul_right (Nat.mul_pos hy' hy) e;refine ⟨hAB,?_,?_⟩
 ·have:A*y*y'=2*x*y':=by rw [Nat.mul_assoc,Nat.mul_comm y y',Nat.mul_assoc 2];omega
  exact Nat.eq_of_mul_eq_mul_right hy' this
 ·have:2*x'*y=B*y'*y:=by rw [Nat.mul_assoc,Nat.mul_assoc];omega
  exact Nat.eq_of_mul_eq_mul_right hy this
theorem Nr.mono {x y b x' y' b':Nat} (h:Nr x y b) (h':Nr x' y' b') (hy:0<y) (hy':0<y') (hx:x*y'<=x'*y):b<=b':=by
 rcases Nat.lt_or_ge b' b with k | k
 ·exfalso
  have k1:V b'<=V (b-1):=V_le (by omega)
  have k2:V (b'+1)<=V b:=V_le (by omega)
  obtain ⟨e1,e2,e3⟩:=mul_mid h.lo h'.hi hx (by omega) hy hy'
  have p1:=h.loe e2;have p2:=h'.hie e3;have:b'=b-1:=V_inj (by omega)
  omega
 ·exact k
theorem Nr.uniq {x y b b':Nat} (h:Nr x y b) (h':Nr x y b') (hy:0<y):b=b' :=
 Nat.le_antisymm (h.mono h' hy hy (Nat.le_refl _)) (h'.mono h hy hy (Nat.le_refl _))
theorem Nr.scale {x y x' y' b:Nat} (h:Nr x y b) (hy:0<y) (hy':0<y') (e:x*y'=x'*y):Nr x' y' b:=by
 have s1:∀ A,A*y'*y=A*y*y':=fun A=>by rw [Nat.mul_assoc,Nat.mul_assoc,Nat.mul_comm y]
 have s2:2*x'*y=2*x*y':=by rw [Nat.mul_assoc,Nat.mul_assoc,e]
 refine ⟨?_,?_,?_,?_⟩
 ·refine Nat.le_of_mul_le_mul_right ?_ hy
  rw [s1,s2];exact Nat.mul_le_mul_right _ h.lo
 ·refine Nat.le_of_mul_le_mul_right ?_ hy
  rw [s1,s2];exact Nat.mul_le_mul_right _ h.hi
 ·intro k
  refine h.loe (Nat.eq_of_mul_eq_mul_right hy' ?_);rw [<-s1,<-s2,k]
 ·intro k
  refine h.hie (Nat.eq_of_mul_eq_mul_right hy' ?_);rw [<-s1,<-s2,k]
theorem Nr.exact (b y:Nat) (hy:0<y):Nr (V b*y) y b:=by
 have h1:=V_le (show b-1<=b by omega)
 have h2:=V_succ b;have e:2*(V b*y)=(V b+V b)*y:=by rw [Nat.add_mul];omega
 refine ⟨?_,?_,?_,?_⟩
 ·rw [e];exact Nat.mul_le_mul_right _ (by omega)
 ·rw [e];exact Nat.mul_le_mul_right _ (by omega)
 ·rw [e];intro k
  have:=Nat.eq_of_mul_eq_mul_right hy k
  have:b-1=b:=V_inj (by omega)
  omega
 ·rw [e];intro k
  have:=Nat.eq_of_mul_eq_mul_right hy k
  omega
theorem Nr.of_eq {x y b:Nat} (hy:0<y) (e:x=V b*y):Nr x y b:=e▸Nr.exact b y hy
def rne (n g:Nat):Nat:=n/g+(decide (g<2*(n%g))||(g == 2*(n%g)&&n/g%2 == 1)).toNat
theorem rne_spec (n g:Nat) (hg:0<g):(2*rne n g)*g<=2*n+g/\2*n<=(2*rne n g+1)*g/\(2*rne n g*g=2*n+g->rne n g%2=0)/\(2*n=(2*rne n g+1)*g->rne n g%2=0)/\n/g<=rne n g/\rne n g<=n/g+1/\(rne n g=n/g+1->n/g%2=1\/g<2*(n%g)):=by
 have hd:=Nat.div_add_mod n g;have hm:=Nat.mod_lt n hg;unfold rne;generalize n/g=q at *;generalize n%g=r at *;have e1:(2*(q+1))*g=2*(g*q)+2*g:=by rw [Nat.mul_add,Nat.add_mul,Nat.mul_comm g q,<-Nat.mul_assoc]
 have e2:(2*(q+1)+1)*g=2*(g*q)+3*g:=by rw [Nat.add_mul,e1];omega
 have e3:(2*q)*g=2*(g*q):=by rw [Nat.mul_comm g q,<-Nat.mul_assoc]
 have e4:(2*q+1)*g=2*(g*q)+g:=by rw [Nat.add_mul,e3];omega
 by_cases h:(decide (g<2*r)||(g == 2*r&&q%2 == 1))=true
 ·rw [h]
  simp only [Bool.toNat_true];have h':g<2*r\/g=2*r/\q%2=1:=by simpa using h
  rw [e1,e2];refine ⟨?_,?_,?_,?_,?_,?_,?_⟩<;>omega
 ·rw [Bool.eq_false_iff.2 h]
  simp only [Bool.toNat_false,Nat.add_zero];have h':¬ (g<2*r\/g=2*r/\q%2=1):=by simpa using h
  rw [e3,e4];refine ⟨?_,?_,?_,?_,?_,?_,?_⟩<;>omega
theorem Nr.of_rne (n g e:Nat) (hg:0<g) (hq:n/g<9007199254740992) (h2:4503599627370496<=n/g\/e=0) :
  Nr (n*2^e) g (e*4503599627370496+rne n g):=by
 obtain ⟨r1,r2,r3,r4,r5,r6,r7⟩:=rne_spec n g hg;generalize hm:rne n g=m at *;have hp:=Nat.two_pow_pos e;have hV:V (e*4503599627370496+m)=m*2^e:=V_form e m (by omega) (by omega)
 generalize hb:e*4503599627370496+m=b at *;have hup:V (b+1)>=(m+1)*2^e:=by
  rw [V_step,hV,Nat.add_mul,Nat.one_mul];have:2^e<=2^(b/4503599627370496-1):=Nat.pow_le_pow_right (by decide) (by omega)
  omega
 have sx:2*(n*2^e)=2*n*2^e:=by rw [Nat.mul_assoc]
 have up1:(2*m+1)*g*2^e<=(V b+V (b+1))*g:=by
  rw [Nat.mul_assoc,Nat.mul_comm g,<-Nat.mul_assoc];refine Nat.mul_le_mul_right _ ?_;rw [hV];simp only [Nat.add_mul,Nat.one_mul] at hup ⊢;rw [Nat.mul_assoc];omega
 have u2:2*n*2^e<=(2*m+1)*g*2^e:=Nat.mul_le_mul_right _ r2;have par:b%2=m%2:=by omega
 have hie:2*(n*2^e)=(V b+V (b+1))*g->b%2=0:=by
  intro k;rw [sx] at k;have:2*n*2^e=(2*m+1)*g*2^e:=by omega
  have:=r4 (Nat.eq_of_mul_eq_mul_right hp this)
  omega
 by_cases hlow:m=4503599627370496/\0<e
 ·obtain ⟨m0,e0⟩:=hlow
  have q0:n/g=m:=by omega
  have n0:g*m<=n:=by rw [<-q0];exact Nat.mul_div_le n g
  have n1:V b*g<=n*2^e:=by
   rw [hV,Nat.mul_assoc,Nat.mul_comm _ g,<-Nat.mul_assoc,Nat.mul_comm m];exact Nat.mul_le_mul_right _ n0
  have n2:V (b-1)<V b:=V_lt (by omega)
  have n3:(V (b-1)+V b)*g<(V b+V b)*g:=Nat.mul_lt_mul_of_pos_right (by omega) hg
  have n4:(V b+V b)*g=V b*g+V b*g:=by rw [Nat.add_mul]
  exact ⟨by omega,by omega,by omega,hie⟩
 ·by_cases hb0:b=0
  ·have:(V (b-1)+V b)*g=0:=by rw [hb0];simp [V_zero]
   exact ⟨by omega,by omega,by omega,hie⟩
  ·have hm0:0<m:=by omega
   have lo0:V (b-1)+2^e<=V b:=by
    have s:=V_step (b-1);rw [show b-1+1=b from by omega] at s
    rw [s];have:2^e<=2^((b-1)/4503599627370496-1):=Nat.pow_le_pow_right (by decide) (by omega)
    omega
   have lo1:(V (b-1)+V b)*g+g*2^e<=2*m*g*2^e:=by
    have z:(V (b-1)+V b+2^e)*g<=(2*m*2^e)*g:=Nat.mul_le_mul_right _ (by rw [hV] at lo0 ⊢;rw [Nat.mul_assoc];omega)
    rw [Nat.add_mul,Nat.mul_comm (2^e) g] at z;rw [Nat.mul_assoc (2*m),Nat.mul_comm g,<-Nat.mul_assoc];rw [Nat.mul_comm (2^e) g];exact z
   have lo2:2*m*g*2^e<=2*n*2^e+g*2^e:=by
    rw [<-Nat.add_mul];exact Nat.mul_le_mul_right _ r1
   have loe:(V (b-1)+V b)*g=2*(n*2^e)->b%2=0:=by
    intro k;rw [sx] at k;have:2*m*g*2^e=(2*n+g)*2^e:=by rw [Nat.add_mul];omega
    have:=r3 (Nat.eq_of_mul_eq_mul_right hp this)
    omega
   exact ⟨by omega,by omega,loe,hie⟩
def sg (wd:Nat):Bool:=wd/9223372036854775808%2 == 1
def rg (wd:Nat):Nat:=wd%9223372036854775808
def mg (r:Nat):Nat:=if r<4503599627370496 then r else 4503599627370496+r%4503599627370496
def xp (r:Nat):Nat:=r/4503599627370496-1
theorem V_mg (r:Nat):V r=mg r*2^xp r:=by
 unfold V mg xp;split
 ·rename_i h;rw [show r/4503599627370496-1=0 by omega];simp
 ·rfl
theorem mg_lt (r:Nat):mg r<9007199254740992:=by unfold mg;split<;>omega
theorem least:double.leastPlace=-1074:=by decide
theorem bin:double.binade=4503599627370496:=by decide
theorem swt:double.signWeight=9223372036854775808:=by decide
theorem inf:double.infRung=9218868437227405312:=by decide
theorem read_fin {x:Nat} (h:rg x<9218868437227405312):double.read x=.number (sg x) (mg (rg x)) (-1074+(xp (rg x):Int)):=by
 unfold Format.read;rw [least,bin,swt,inf];simp only [<-show rg x=x%9223372036854775808 from rfl,<-show sg x=(x/9223372036854775808%2 == 1) from rfl];unfold mg xp;by_cases c:rg x<4503599627370496
 ·rw [if_pos c,if_pos c,show rg x/4503599627370496-1=0 by omega];rfl
 ·rw [if_neg c,if_pos h,if_neg c]
theorem read_inf {x:Nat} (h:rg x=9218868437227405312):double.read x=.infinity (sg x):=by
 unfold Format.read;rw [least,bin,swt,inf];simp only [<-show rg x=x%9223372036854775808 from rfl,<-show sg x=(x/9223372036854775808%2 == 1) from rfl];rw [if_neg (by omega),if_neg (by omega),if_pos h]
theorem read_nan {x:Nat} (h:9218868437227405312<rg x):double.read x=.nan (sg x) (rg x-9218868437227405312):=by
 unfold Format.read;rw [least,bin,swt,inf];simp only [<-show rg x=x%9223372036854775808 from rfl,<-show sg x=(x/9223372036854775808%2 == 1) from rfl];rw [if_neg (by omega),if_neg (by omega),if_neg (by omega)]
def SV (x:Nat):Int:=if sg x then -(V (rg x):Int) else V (rg x)
theorem signed_up (s:Bool) (m u k:Nat):signed s m (u+k)=signed s m u*2^k:=by
 unfold signed;have e:m <<< (u+k)=m <<< u*2^k:=by rw [Nat.shiftLeft_eq,Nat.shiftLeft_eq,Nat.pow_add,Nat.mul_assoc]
 cases s<;>simp [e,Int.neg_mul]
theorem SV_signed (x:Nat):SV x=signed (sg x) (mg (rg x)) (xp (rg x)):=by
 unfold SV signed;rw [V_mg,Nat.shiftLeft_eq]
theorem cmp_scale (a b k:Int) (h:0<k):compare (a*k) (b*k)=compare a b:=by
 show compareOfLessAndEq _ _=compareOfLessAndEq _ _;unfold compareOfLessAndEq;have e1:(a*k<b*k)↔a<b:=Int.mul_lt_mul_right h;have e2:(a*k=b*k)↔a=b:=Int.mul_eq_mul_right_iff (by omega)
 simp only [e1,e2]
theorem two_pow_pos (k:Nat):(0:Int)<2^k:=Int.pow_pos (by decide)
theorem order_fin {x y:Nat} (hx:rg x<9218868437227405312) (hy:rg y<9218868437227405312):double.order x y=some (compare (SV x) (SV y)):=by
 unfold Format.order;rw [read_fin hx,read_fin hy];unfold Datum.order;simp only;have e:min (-1074+(xp (rg x):Int)) (-1074+(xp (rg y):Int))=-1074+((min (xp (rg x)) (xp (rg y)):Nat):Int):=by omega
 rw [e];have e1:(-1074+(xp (rg x):Int)-(-1074+((min (xp (rg x)) (xp (rg y)):Nat):Int))).toNat=xp (rg x)-min (xp (rg x)) (xp (rg y)):=by omega
 have e2:(-1074+(xp (rg y):Int)-(-1074+((min (xp (rg x)) (xp (rg y)):Nat):Int))).toNat=xp (rg y)-min (xp (rg x)) (xp (rg y)):=by omega
 rw [e1,e2];have f1:SV x=signed (sg x) (mg (rg x)) (xp (rg x)-min (xp (rg x)) (xp (rg y)))*2^(min (xp (rg x)) (xp (rg y))):=by
  rw [<-signed_up,SV_signed];congr 1;omega
 have f2:SV y=signed (sg y) (mg (rg y)) (xp (rg y)-min (xp (rg x)) (xp (rg y)))*2^(min (xp (rg x)) (xp (rg y))):=by
  rw [<-signed_up,SV_signed];congr 1;omega
 rw [f1,f2,cmp_scale _ _ _ (two_pow_pos _)]
theorem fcmp_lt (a b:Int):(some (compare a b) == some Ordering.lt)=decide (a<b):=by
 rw [show compare a b=compareOfLessAndEq a b from rfl];unfold compareOfLessAndEq;by_cases h:a<b
 ·simp [h]
 ·by_cases k:a=b<;>simp [h,k]
theorem fcmp_eq (a b:Int):(some (compare a b) == some Ordering.eq)=decide (a=b):=by
 rw [show compare a b=compareOfLessAndEq a b from rfl];unfold compareOfLessAndEq;by_cases h:a<b
 ·have:¬ a=b:=by omega
  simp [h,this]
 ·by_cases k:a=b<;>simp [h,k]
theorem cmp_gt (a b:Int):(some (compare a b) == some Ordering.gt)=decide (b<a):=by
 rw [show compare a b=compareOfLessAndEq a b from rfl];unfold compareOfLessAndEq;by_cases h:a<b
 ·have:¬ b<a:=by omega
  simp [h,this]
 ·by_cases k:a=b
  ·simp [k]
  ·have:b<a:=by omega
   simp [h,k,this]
theorem f_lt {x y:Nat} (hx:rg x<9218868437227405312) (hy:rg y<9218868437227405312):(double.order x y == some .lt)=decide (SV x<SV y):=by rw [order_fin hx hy,fcmp_lt]
theorem f_gt {x y:Nat} (hx:rg x<9218868437227405312) (hy:rg y<9218868437227405312):(double.order x y == some .gt)=decide (SV y<SV x):=by rw [order_fin hx hy,cmp_gt]
theorem f_eq {x y:Nat} (hx:rg x<9218868437227405312) (hy:rg y<9218868437227405312):(double.order x y == some .eq)=decide (SV x=SV y):=by rw [order_fin hx hy,fcmp_eq]
theorem f_ne {x y:Nat} (hx:rg x<9218868437227405312) (hy:rg y<9218868437227405312):(double.order x y != some .eq)=!decide (SV x=SV y):=by rw [bne,f_eq hx hy]
theorem f_ge {x y:Nat} (hx:rg x<9218868437227405312) (hy:rg y<9218868437227405312):(double.order x y == some .gt||double.order x y == some .eq)=decide (SV y<=SV x):=by
 rw [f_gt hx hy,f_eq hx hy];by_cases h:SV y<SV x
 ·have:SV y<=SV x:=by omega
  simp [h,this]
 ·by_cases k:SV x=SV y
  ·simp [k]
  ·have:¬ SV y<=SV x:=by omega
   simp [h,k,this]
theorem cut_even (neg:Bool) (n d:Nat):Toward.even.cut neg n d=rne n (2^d):=by
 unfold Toward.cut rne;simp only [Nat.one_shiftLeft];have hl:n<2^(n.log2+1):=Nat.lt_log2_self;by_cases h:d<=n.log2+2
 ·rw [Nat.min_eq_left h]
 ·rw [Nat.min_eq_right (by omega)]
  have p1:2^(n.log2+2)=2*2^(n.log2+1):=by rw [Nat.pow_succ,Nat.mul_comm]
  have p2:2^(n.log2+2)<=2^d:=Nat.pow_le_pow_right (by decide) (by omega)
  have q1:n/2^(n.log2+2)=0:=Nat.div_eq_of_lt (by omega)
  have q2:n%2^(n.log2+2)=n:=Nat.mod_eq_of_lt (by omega)
  have q3:n/2^d=0:=Nat.div_eq_of_lt (by omega)
  have q4:n%2^d=n:=Nat.mod_eq_of_lt (by omega)
  rw [q1,q2,q3,q4];have d1:decide (2^(n.log2+2)<2*n)=false:=decide_eq_false (by omega)
  have d2:decide (2^d<2*n)=false:=decide_eq_false (by omega)
  rw [d1,d2];simp
theorem nearest_eq (neg:Bool) (mag:Nat) (place:Int) (b a c:Nat) (h0:0<mag) (hp:place+1074=(a:Int)-c) (h:Nr (mag*2^a) (2^c) b) :
  double.nearest neg mag place=double.word neg (min b 9218868437227405312):=by
 have l1:2^mag.log2<=mag:=Nat.log2_self_le (by omega)
 have l2:mag<2^(mag.log2+1):=Nat.lt_log2_self;unfold Format.nearest;rw [if_neg (by omega),least,bin,inf]
 simp only [cut_even,Nat.shiftLeft_eq,show double.fractionBits=52 from rfl];generalize hL:mag.log2=L at *;generalize hl:max (place+(L:Int)-(52:Nat)) (-1074)=last;generalize hd:(last-place).toNat=d;generalize hu:(place-last).toNat=u;generalize he:(last - -1074).toNat=e;have pd:=Nat.two_pow_pos d;have pu:=Nat.two_pow_pos u;have pc:=Nat.two_pow_pos c;have n1:mag*2^u/2^d<9007199254740992:=by
  refine Nat.div_lt_of_lt_mul ?_;have z1:mag*2^u<2^(L+1)*2^u:=Nat.mul_lt_mul_of_pos_right l2 pu;have z2:2^(L+1)*2^u<=2^d*9007199254740992:=by
   rw [<-Nat.pow_add,show (9007199254740992:Nat)=2^53 from rfl,<-Nat.pow_add];exact Nat.pow_le_pow_right (by decide) (by omega)
  omega
 have n2:4503599627370496<=mag*2^u/2^d\/e=0:=by
  by_cases k:e=0
  ·exact .inr k
  ·refine .inl ((Nat.le_div_iff_mul_le pd).2 ?_)
   have z1:2^L*2^u<=mag*2^u:=Nat.mul_le_mul_right _ l1;have z2:4503599627370496*2^d<=2^L*2^u:=by
    rw [<-Nat.pow_add,show (4503599627370496:Nat)=2^52 from rfl,<-Nat.pow_add];exact Nat.pow_le_pow_right (by decide) (by omega)
   omega
 have key:=Nr.of_rne (mag*2^u) (2^d) e pd n1 n2;have key2:Nr (mag*2^a) (2^c) (e*4503599627370496+rne (mag*2^u) (2^d)):=by
  refine key.scale pd pc ?_;rw [Nat.mul_assoc,Nat.mul_assoc,Nat.mul_assoc,<-Nat.pow_add,<-Nat.pow_add,<-Nat.pow_add];congr 2;omega
 rw [key2.uniq h pc]
theorem Nr.zero (y:Nat) (hy:0<y):Nr 0 y 0:=Nr.of_eq hy (by rw [V_zero];omega)
theorem nearest_ex (neg:Bool) (mag:Nat) (place:Int) (a c:Nat) (hp:place+1074=(a:Int)-c) :
  ∃ b,Nr (mag*2^a) (2^c) b/\double.nearest neg mag place=double.word neg (min b 9218868437227405312):=by
 have pc:=Nat.two_pow_pos c;by_cases h0:mag=0
 ·refine ⟨0,by rw [h0,Nat.zero_mul];exact Nr.zero _ pc,?_⟩
  unfold Format.nearest;rw [if_pos h0];rfl
 ·have l1:2^mag.log2<=mag:=Nat.log2_self_le (by omega)
  have l2:mag<2^(mag.log2+1):=Nat.lt_log2_self
  suffices ∃ b,Nr (mag*2^a) (2^c) b by
   obtain ⟨b,hb⟩:=this;exact ⟨b,hb,nearest_eq neg mag place b a c (by omega) hp hb⟩
  generalize hL:mag.log2=L at *;have:=Nat.two_pow_pos a;obtain ⟨e,u,d,q1,q2,q3⟩:∃ e u d:Nat,L+1+u<=53+d/\(52+d<=L+u\/e=0)/\u+e+c=a+d:=by
   by_cases k:a+L<=52+c
   ·exact ⟨0,a,c,by omega,.inr rfl,by omega⟩
   ·by_cases k2:L<=52
    ·exact ⟨a-c-(52-L),52-L,0,by omega,by omega,by omega⟩
    ·exact ⟨a+(L-52)-c,0,L-52,by omega,by omega,by omega⟩
  have pd:=Nat.two_pow_pos d;have pu:=Nat.two_pow_pos u;have n1:mag*2^u/2^d<9007199254740992:=by
   refine Nat.div_lt_of_lt_mul ?_;have z1:mag*2^u<2^(L+1)*2^u:=Nat.mul_lt_mul_of_pos_right l2 pu;have z2:2^(L+1)*2^u<=2^d*9007199254740992:=by
    rw [<-Nat.pow_add,show (9007199254740992:Nat)=2^53 from rfl,<-Nat.pow_add];exact Nat.pow_le_pow_right (by decide) (by omega)
   omega
  have n2:4503599627370496<=mag*2^u/2^d\/e=0:=by
   rcases q2 with q2 | q2
   ·refine .inl ((Nat.le_div_iff_mul_le pd).2 ?_)
    have z1:2^L*2^u<=mag*2^u:=Nat.mul_le_mul_right _ l1;have z2:4503599627370496*2^d<=2^L*2^u:=by
     rw [<-Nat.pow_add,show (4503599627370496:Nat)=2^52 from rfl,<-Nat.pow_add];exact Nat.pow_le_pow_right (by decide) (by omega)
    omega
   ·exact .inr q2
  refine ⟨_,(Nr.of_rne (mag*2^u) (2^d) e pd n1 n2).scale pd pc ?_⟩;rw [Nat.mul_assoc,Nat.mul_assoc,Nat.mul_assoc,<-Nat.pow_add,<-Nat.pow_add,<-Nat.pow_add];congr 2;omega
theorem word_rg (neg:Bool) (b:Nat) (h:b<9223372036854775808):rg (double.word neg b)=b:=by
 unfold rg Format.word;rw [swt];split<;>omega
theorem word_sg (neg:Bool) (b:Nat) (h:b<9223372036854775808):sg (double.word neg b)=neg:=by
 unfold sg Format.word;rw [swt];cases neg
 ·simp;omega
 ·simp;omega
theorem word_false (b:Nat):double.word false b=b:=rfl
theorem natAbs_mul_pow (t:Int) (k:Nat):t.natAbs*2^k=(t*2^k).natAbs:=by
 rw [Int.natAbs_mul,Int.natAbs_pow];rfl
theorem sum_fin (s t:Bool) (m n i j:Nat) :
  ∃ b,Nr (signed s m i+signed t n j).natAbs 1 b/\((Datum.number s m (-1074+(i:Int))).sum (.number t n (-1074+(j:Int)))).map double.write =
   some (double.word (if signed s m i+signed t n j=0 then s&&t else signed s m i+signed t n j<0) (min b 9218868437227405312)):=by
 have e:min (-1074+(i:Int)) (-1074+(j:Int))=-1074+((min i j:Nat):Int):=by omega
 have e1:(-1074+(i:Int)-(-1074+((min i j:Nat):Int))).toNat=i-min i j:=by omega
 have e2:(-1074+(j:Int)-(-1074+((min i j:Nat):Int))).toNat=j-min i j:=by omega
 unfold Datum.sum;simp only [e,e1,e2,Option.map];have f1:signed s m i=signed s m (i-min i j)*2^(min i j):=by rw [<-signed_up];congr 1;omega
 have f2:signed t n j=signed t n (j-min i j)*2^(min i j):=by rw [<-signed_up];congr 1;omega
 rw [f1,f2,<-Int.add_mul,<-natAbs_mul_pow];generalize signed s m (i-min i j)+signed t n (j-min i j)=tot;generalize min i j=k;have hp:=two_pow_pos k;have z1:(tot*2^k=0)↔tot=0:=⟨fun h=>by rcases Int.mul_eq_zero.1 h with h | h<;>omega,fun h=>by rw [h];simp⟩
 have z2:(tot*2^k<0)↔tot<0:=by
  have:=Int.mul_lt_mul_right (b:=tot) (c:=0) hp
  rw [Int.zero_mul] at this;exact this
 obtain ⟨b,hb,hw⟩:=nearest_ex (if tot=0 then s&&t else decide (tot<0)) tot.natAbs (-1074+(k:Int)) k 0 (by omega)
 refine ⟨b,by simpa using hb,?_⟩
 show some (double.nearest _ _ _)=_;rw [hw];congr 2;by_cases c:tot=0
 ·rw [if_pos c,if_pos (z1.2 c)]
 ·rw [if_neg c,if_neg (fun h=>c (z1.1 h))]
  simp only [z2]
theorem add_fin {x y:Nat} (hx:rg x<9218868437227405312) (hy:rg y<9218868437227405312) :
  ∃ b,Nr (SV x+SV y).natAbs 1 b/\double.add x y=some (double.word (if SV x+SV y=0 then sg x&&sg y else SV x+SV y<0) (min b 9218868437227405312)):=by
 unfold Format.add;rw [read_fin hx,read_fin hy,SV_signed,SV_signed];exact sum_fin _ _ _ _ _ _
def fpw (k:Nat):Nat:=2^k
def Un:Nat:=fpw 1074
theorem Un_at (k:Nat) (h:k=1074):2^k=Un:=congrArg fpw h
theorem Un_ex:∃ k,k=1074/\Un=2^k:=⟨1074,rfl,(Un_at 1074 rfl).symm⟩
theorem Un_pos:0<Un:=by obtain ⟨k,_,e⟩:=Un_ex;rw [e];exact Nat.two_pow_pos k
theorem Un_pow (k:Nat):2^k*Un=2^(k+1074):=by obtain ⟨j,h,e⟩:=Un_ex;rw [e,<-h,Nat.pow_add]
theorem mul_fin {x y:Nat} (hx:rg x<9218868437227405312) (hy:rg y<9218868437227405312) :
  ∃ b,Nr (V (rg x)*V (rg y)) (Un) b/\double.mul x y=some (double.word (sg x ^^ sg y) (min b 9218868437227405312)):=by
 unfold Format.mul;rw [read_fin hx,read_fin hy];obtain ⟨k,hk,hU⟩:=Un_ex;obtain ⟨b,hb,hw⟩:=nearest_ex (sg x ^^ sg y) (mg (rg x)*mg (rg y)) (-1074+(xp (rg x):Int)+(-1074+(xp (rg y):Int))) (xp (rg x)+xp (rg y)) k (by omega)
 refine ⟨b,?_,?_⟩
 ·rw [V_mg,V_mg (rg y)]
  have:mg (rg x)*2^xp (rg x)*(mg (rg y)*2^xp (rg y))=mg (rg x)*mg (rg y)*2^(xp (rg x)+xp (rg y)):=by
   rw [Nat.pow_add,Nat.mul_mul_mul_comm]
  rw [this,hU];exact hb
 ·show some (double.nearest _ _ _)=_
  rw [hw]
theorem cut_zero (neg:Bool) (n d:Nat):Toward.zero.cut neg n d=n/2^d:=by
 unfold Toward.cut;simp only [Nat.one_shiftLeft,Bool.toNat_false,Nat.add_zero];have hl:n<2^(n.log2+1):=Nat.lt_log2_self;by_cases h:d<=n.log2+2
 ·rw [Nat.min_eq_left h]
 ·rw [Nat.min_eq_right (by omega)]
  have p1:2^(n.log2+2)=2*2^(n.log2+1):=by rw [Nat.pow_succ,Nat.mul_comm]
  have p2:2^(n.log2+2)<=2^d:=Nat.pow_le_pow_right (by decide) (by omega)
  rw [Nat.div_eq_of_lt (by omega),Nat.div_eq_of_lt (by omega)]
theorem down_nat (m k:Nat):m*2^((-1074+(k:Int)).toNat)/2^((-(-1074+(k:Int))).toNat)=m*2^k/Un:=by
 by_cases h:1074<=k
 ·rw [show (-1074+(k:Int)).toNat=k-1074 by omega,show (-(-1074+(k:Int))).toNat=0 by omega,Nat.pow_zero,Nat.div_one]
  refine (Nat.div_eq_of_eq_mul_left Un_pos ?_).symm;rw [Nat.mul_assoc,Un_pow (k-1074)];congr 2;omega
 ·rw [show (-1074+(k:Int)).toNat=0 by omega,show (-(-1074+(k:Int))).toNat=1074-k by omega,Nat.pow_zero,Nat.mul_one]
  have:Un=2^(1074-k)*2^k:=by rw [<-Nat.pow_add,Un_at _ (show 1074-k+k=1074 by omega)]
  rw [this,Nat.mul_div_mul_right _ _ (Nat.two_pow_pos _)]
theorem toInt_fin {x:Nat} (hx:rg x<9218868437227405312):(double.read x).toInt .zero=some (if sg x then -((V (rg x)/Un:Nat):Int) else (V (rg x)/Un:Nat)):=by
 rw [read_fin hx];unfold Datum.toInt Datum.integral;simp only [cut_zero,Nat.shiftLeft_eq];rw [down_nat,<-V_mg];unfold signed;simp only [Nat.shiftLeft_zero]
theorem cut_down (neg:Bool) (n d:Nat):Toward.down.cut neg n d=n/2^d+(neg&&n%2^d != 0).toNat:=by
 unfold Toward.cut;simp only [Nat.one_shiftLeft];have hl:n<2^(n.log2+1):=Nat.lt_log2_self;by_cases h:d<=n.log2+2
 ·rw [Nat.min_eq_left h]
 ·rw [Nat.min_eq_right (by omega)]
  have p1:2^(n.log2+2)=2*2^(n.log2+1):=by rw [Nat.pow_succ,Nat.mul_comm]
  have p2:2^(n.log2+2)<=2^d:=Nat.pow_le_pow_right (by decide) (by omega)
  have q1:n/2^(n.log2+2)=0:=Nat.div_eq_of_lt (by omega)
  have q2:n%2^(n.log2+2)=n:=Nat.mod_eq_of_lt (by omega)
  have q3:n/2^d=0:=Nat.div_eq_of_lt (by omega)
  have q4:n%2^d=n:=Nat.mod_eq_of_lt (by omega)
  rw [q1,q2,q3,q4]
theorem rest_nat (m k:Nat):(m*2^((-1074+(k:Int)).toNat)%2^((-(-1074+(k:Int))).toNat) != 0)=(m*2^k%Un != 0):=by
 by_cases h:1074<=k
 ·rw [show (-(-1074+(k:Int))).toNat=0 by omega,Nat.pow_zero,Nat.mod_one]
  have:m*2^k=m*2^(k-1074)*Un:=by rw [Nat.mul_assoc,Un_pow (k-1074)];congr 2;omega
  rw [this,Nat.mul_mod_left]
 ·rw [show (-1074+(k:Int)).toNat=0 by omega,show (-(-1074+(k:Int))).toNat=1074-k by omega,Nat.pow_zero,Nat.mul_one]
  have hp:=Nat.two_pow_pos k;have:Un=2^(1074-k)*2^k:=by rw [<-Nat.pow_add,Un_at _ (show 1074-k+k=1074 by omega)]
  rw [this,Nat.mul_mod_mul_right];by_cases z:m%2^(1074-k)=0
  ·rw [z,Nat.zero_mul]
  ·have z2:¬ m%2^(1074-k)*2^k=0:=Nat.ne_of_gt (Nat.mul_pos (Nat.pos_of_ne_zero z) hp)
   rw [bne,bne,beq_false_of_ne z,beq_false_of_ne z2]
theorem rep_small (k:Nat) (h:k<=9007199254740992):∃ b,b<9218868437227405312/\V b=k*Un:=by
 by_cases h0:k=0
 ·exact ⟨0,by decide,by rw [h0,V_zero,Nat.zero_mul]⟩
 ·have l1:2^k.log2<=k:=Nat.log2_self_le h0
  have l2:k<2^(k.log2+1):=Nat.lt_log2_self;by_cases h1:k=9007199254740992
  ·refine ⟨1074*4503599627370496+9007199254740992,by decide,?_⟩
   rw [V_form 1074 9007199254740992 (by decide) (.inl (by decide)),h1]
   obtain ⟨j,hj,e⟩:=Un_ex;rw [e,hj]
  ·have hL:k.log2<=52:=by
    rcases Nat.lt_or_ge k.log2 53 with z | z
    ·omega
    ·have:2^53<=2^k.log2:=Nat.pow_le_pow_right (by decide) z
     omega
   generalize k.log2=L at *;have e1:4503599627370496<=k*2^(52-L):=by
    have:2^L*2^(52-L)<=k*2^(52-L):=Nat.mul_le_mul_right _ l1
    rw [<-Nat.pow_add,show L+(52-L)=52 by omega] at this
    exact this
   have e2:k*2^(52-L)<9007199254740992:=by
    have:k*2^(52-L)<2^(L+1)*2^(52-L):=Nat.mul_lt_mul_of_pos_right l2 (Nat.two_pow_pos _)
    rw [<-Nat.pow_add,show L+1+(52-L)=53 by omega] at this
    exact this
   refine ⟨(1074-(52-L))*4503599627370496+k*2^(52-L),by omega,?_⟩
   rw [V_form _ _ (by omega) (.inl e1),Nat.mul_assoc,<-Nat.pow_add,Un_at _ (by omega)]
theorem rep_floor {r:Nat} (h:r<9218868437227405312):∃ b,b<9218868437227405312/\V b=V r/Un*Un:=by
 by_cases c:1074<=xp r
 ·refine ⟨r,h,?_⟩
  have e:V r=mg r*2^(xp r-1074)*Un:=by
   rw [V_mg,Nat.mul_assoc,Un_pow];congr 2;omega
  rw [e,Nat.mul_div_cancel _ Un_pos]
 ·refine rep_small _ ?_
  have e:Un=2^(1074-xp r)*2^xp r:=by rw [<-Nat.pow_add,Un_at _ (by omega)]
  rw [V_mg,e,Nat.mul_div_mul_right _ _ (Nat.two_pow_pos _)];have:=mg_lt r;have:=Nat.div_le_self (mg r) (2^(1074-xp r));omega
theorem rep_ceil {r:Nat} (h:r<9218868437227405312):∃ b,b<9218868437227405312/\V b=(V r/Un+(V r%Un != 0).toNat)*Un:=by
 by_cases c:1074<=xp r
 ·refine ⟨r,h,?_⟩
  have e:V r=mg r*2^(xp r-1074)*Un:=by
   rw [V_mg,Nat.mul_assoc,Un_pow];congr 2;omega
  have e2:V r%Un=0:=by rw [e,Nat.mul_mod_left]
  rw [e2,e,Nat.mul_div_cancel _ Un_pos];simp
 ·refine rep_small _ ?_
  have e:Un=2^(1074-xp r)*2^xp r:=by rw [<-Nat.pow_add,Un_at _ (by omega)]
  have q:V r/Un=mg r/2^(1074-xp r):=by rw [V_mg,e,Nat.mul_div_mul_right _ _ (Nat.two_pow_pos _)]
  have:=mg_lt r
  have:=Nat.div_le_self (mg r) (2^(1074-xp r))
  have:=Bool.toNat_le (V r%Un != 0)
  omega
theorem nearest_whole (neg:Bool) (k b:Nat) (hb:b<9218868437227405312) (hV:V b=k*Un):double.nearest neg k 0=double.word neg b:=by
 by_cases h0:k=0
 ·have:b=0:=V_inj (by rw [hV,h0,Nat.zero_mul,V_zero])
  unfold Format.nearest;rw [if_pos h0,this]
 ·obtain ⟨j,hj,e⟩:=Un_ex
  rw [nearest_eq neg k 0 b j 0 (by omega) (by omega) (Nr.of_eq (by decide) (by rw [hV,e,Nat.pow_zero,Nat.mul_one])),Nat.min_eq_left (by omega)]
theorem ofInt_whole (n:Int) (b:Nat) (hb:b<9218868437227405312) (hV:V b=n.natAbs*Un):floatOfInt .f64 n=double.word (n<0) b:=by
 show double.nearest (decide (n<0)) n.natAbs 0=_;exact nearest_whole _ _ _ hb hV
theorem ofInt_any (n:Int):∃ b,Nr (n.natAbs*Un) 1 b/\floatOfInt .f64 n=double.word (n<0) (min b 9218868437227405312):=by
 show ∃ b,_/\double.nearest (decide (n<0)) n.natAbs 0=_;obtain ⟨j,hj,e⟩:=Un_ex;obtain ⟨b,h1,h2⟩:=nearest_ex (decide (n<0)) n.natAbs 0 j 0 (by omega)
 exact ⟨b,by rw [e];exact h1,h2⟩
theorem SV_word (neg:Bool) (b:Nat) (h:b<9223372036854775808):SV (double.word neg b)=if neg then -(V b:Int) else V b:=by
 unfold SV;rw [word_sg _ _ h,word_rg _ _ h]
def flo (x:Nat):Int:=SV x/(Un:Int)
def flb (x:Nat):Nat:=double.write ((double.read x).integral .down)
theorem flo_eq (x:Nat):flo x=if sg x then -((V (rg x)/Un+(V (rg x)%Un != 0).toNat:Nat):Int) else ((V (rg x)/Un:Nat):Int):=by
 have hU:=Un_pos;unfold flo SV;cases sg x
 ·simp
 ·simp only [if_true]
  have hd:=Nat.div_add_mod (V (rg x)) Un;have hm:=Nat.mod_lt (V (rg x)) hU;generalize V (rg x)/Un=q at *;generalize V (rg x)%Un=r at *;rw [<-hd];by_cases z:r=0
  ·subst z
   rw [show (-((Un*q+0:Nat):Int))=(Un:Int)*(-(q:Int)) by rw [Nat.add_zero,Int.natCast_mul,Int.mul_neg],Int.mul_ediv_cancel_left _ (by omega)]
   simp
  ·have b:(r != 0)=true:=by simp [z]
   rw [b];have e:(-((Un*q+r:Nat):Int))=((Un-r:Nat):Int)+(Un:Int)*(-((q:Int)+1)):=by
    rw [Int.mul_neg,Int.mul_add,Int.natCast_add,Int.natCast_mul];omega
   rw [e,Int.add_mul_ediv_left _ _ (by omega),Int.ediv_eq_zero_of_lt (by omega) (by omega)]
   simp
theorem flb_eq {x:Nat} (hx:rg x<9218868437227405312):∃ b,b<9218868437227405312/\flb x=double.word (sg x) b/\V b=(flo x).natAbs*Un:=by
 unfold flb;rw [read_fin hx,flo_eq];unfold Datum.integral;simp only [cut_down,Nat.shiftLeft_eq,Format.write];rw [down_nat,rest_nat,<-V_mg];cases sg x
 ·obtain ⟨b,hb,hV⟩:=rep_floor hx
  refine ⟨b,hb,?_,?_⟩
  ·simp only [Bool.false_and,Bool.toNat_false,Nat.add_zero]
   exact nearest_whole _ _ _ hb hV
  ·rw [if_neg (by decide),Int.natAbs_natCast];exact hV
 ·obtain ⟨b,hb,hV⟩:=rep_ceil hx
  refine ⟨b,hb,?_,?_⟩
  ·simp only [Bool.true_and]
   exact nearest_whole _ _ _ hb hV
  ·rw [if_pos rfl,Int.natAbs_neg,Int.natAbs_natCast];exact hV
theorem toInt_word (neg:Bool) (b k:Nat) (hb:b<9218868437227405312) (hV:V b=k*Un):(double.read (double.word neg b)).toInt .zero=some (if neg then -(k:Int) else k):=by
 have hl:b<9223372036854775808:=by omega
 rw [toInt_fin (by rw [word_rg _ _ hl];exact hb),word_sg _ _ hl,word_rg _ _ hl,hV,Nat.mul_div_cancel _ Un_pos]
theorem flo_sign (x:Nat):(if sg x then -((flo x).natAbs:Int) else (flo x).natAbs)=flo x:=by
 rw [flo_eq];cases sg x
 ·rw [if_neg (by decide),if_neg (by decide),Int.natAbs_natCast]
 ·rw [if_pos rfl,if_pos rfl,Int.natAbs_neg,Int.natAbs_natCast]
theorem toVal_flb {x:Nat} (hx:rg x<9218868437227405312) (h0:-9223372036854775808<=flo x) (h1:flo x<9223372036854775808):floatToIntVal .f64 (flb x) .i64=some (flo x):=by
 obtain ⟨b,hb,e,hV⟩:=flb_eq hx;unfold floatToIntVal;show (match (double.read (flb x)).toInt .zero with | some n=>_ | none=>_)=_
 rw [e,toInt_word _ _ _ hb hV,flo_sign];simp only;rw [if_pos];exact ⟨h0,by show flo x<=9223372036854775807;omega⟩
def tru (x:Nat):Int:=if sg x then -((V (rg x)/Un:Nat):Int) else (V (rg x)/Un:Nat)
theorem tru_flo (x:Nat):(SV x<tru x*Un->flo x=tru x-1)/\(¬ SV x<tru x*Un->flo x=tru x):=by
 have hU:=Un_pos;rw [flo_eq];unfold tru SV;have hd:=Nat.div_add_mod (V (rg x)) Un;have hm:=Nat.mod_lt (V (rg x)) hU;generalize V (rg x)/Un=q at *;generalize V (rg x)%Un=r at *;rw [<-hd];cases sg x
 ·simp only [if_neg (show ¬ false=true by decide)]
  have:((Un*q+r:Nat):Int)=(q:Int)*Un+r:=by rw [Int.natCast_add,Int.natCast_mul,Int.mul_comm]
  rw [this];exact ⟨fun h=>by omega,fun _=>trivial⟩
 ·simp only [if_true]
  have:((Un*q+r:Nat):Int)=(q:Int)*Un+r:=by rw [Int.natCast_add,Int.natCast_mul,Int.mul_comm]
  rw [this,Int.neg_mul];by_cases z:r=0
  ·subst z
   exact ⟨fun h=>by omega,fun _=>by simp⟩
  ·have b:(r != 0)=true:=by simp [z]
   rw [b];exact ⟨fun h=>by simp;omega,fun h=>by omega⟩
theorem V_pw2 (k:Nat):V ((k+1023)*4503599627370496)=2^k*Un:=by
 have:=V_form (k+1022) 4503599627370496 (by decide) (.inl (by decide))
 rw [show (k+1022)*4503599627370496+4503599627370496=(k+1023)*4503599627370496 by omega] at this
 rw [this,show (4503599627370496:Nat)=2^52 from rfl,<-Nat.pow_add,Un_pow,show 52+(k+1022)=k+1074 by omega]
theorem V2:V 4611686018427387904=2*Un:=by
 have h:=V_pw2 1;rw [show (1+1023)*4503599627370496=4611686018427387904 from rfl,show (2:Nat)^1=2 from rfl] at h;exact h
theorem V1:V 4607182418800017408=Un:=by
 have h:=V_pw2 0;rw [show (0+1023)*4503599627370496=4607182418800017408 from rfl,show (2:Nat)^0=1 from rfl,Nat.one_mul] at h;exact h
theorem gap_le (b:Nat):2^(b/4503599627370496-1)*4503599627370496<=V b+4503599627370496:=by
 obtain ⟨e,m,hb,h1,h2,he⟩:=form b;have a:=V_form e m (by omega) h2
 rw [<-hb] at a;rw [<-he,a];rcases h2 with q | q
 ·have:4503599627370496*2^e<=m*2^e:=Nat.mul_le_mul_right _ q
  rw [Nat.mul_comm];omega
 ·subst q
  omega
theorem Nr.up {x y b:Nat} (h:Nr x y b):9007199254740992*x<=9007199254740992*(V b*y)+V b*y+4503599627370496*y:=by
 have h1:=h.hi;rw [V_step] at h1;have g:=Nat.mul_le_mul_right y (gap_le b);generalize 2^(b/4503599627370496-1)=k at *;rw [Nat.add_mul] at g;have e1:(V b+(V b+k))*y=2*(V b*y)+k*y:=by rw [<-Nat.add_assoc,Nat.add_mul,Nat.add_mul];omega
 have e2:k*4503599627370496*y=4503599627370496*(k*y):=by rw [Nat.mul_comm k,Nat.mul_assoc]
 rw [e1] at h1;rw [e2] at g;omega
theorem Nr.down {x y b:Nat} (h:Nr x y b):9007199254740992*(V b*y)<=9007199254740992*x+V b*y+4503599627370496*y:=by
 cases b with
 | zero=>rw [V_zero,Nat.zero_mul];omega
 | succ b =>
  have h1:=h.lo;rw [Nat.add_sub_cancel] at h1;have st:=V_step b;have g:=Nat.mul_le_mul_right y (gap_le b);have lv:=Nat.mul_le_mul_right y (V_le (show b<=b+1 by omega))
  generalize 2^(b/4503599627370496-1)=k at *;rw [Nat.add_mul] at g;have e2:k*4503599627370496*y=4503599627370496*(k*y):=by rw [Nat.mul_comm k,Nat.mul_assoc]
  rw [e2] at g;have e1:V (b+1)*y=V b*y+k*y:=by rw [st,Nat.add_mul]
  rw [Nat.add_mul] at h1;omega
theorem Nr.twice {x y b:Nat} (h:Nr x y b):V b*y<=2*x+y:=by
 have:=h.down
 omega
theorem Un_big:1809251394333065553493296640760748560207343510400633813116524750123642650624<=Un:=by
 obtain ⟨k,hk,e⟩:=Un_ex;rw [e];have h1:(2:Nat)^100*2^100*2^50<=2^k:=by
  rw [<-Nat.pow_add,<-Nat.pow_add];exact Nat.pow_le_pow_right (by decide) (by omega)
 have e3:(2:Nat)^100*2^100*2^50=1809251394333065553493296640760748560207343510400633813116524750123642650624:=by decide +kernel
 rw [<-e3];exact h1
theorem scale3 {x u v z:Nat} (t:Nat) (h:9007199254740992*x<=9007199254740992*u+v+4503599627370496*z):9007199254740992*(x*t)<=9007199254740992*(u*t)+v*t+4503599627370496*(z*t):=by
 have:=Nat.mul_le_mul_right t h
 rw [Nat.add_mul,Nat.add_mul,Nat.mul_assoc,Nat.mul_assoc,Nat.mul_assoc] at this;exact this
theorem scale2 {x u z:Nat} (t:Nat) (h:x<=2*u+z):x*t<=2*(u*t)+z*t:=by
 have:=Nat.mul_le_mul_right t h
 rw [Nat.add_mul,Nat.mul_assoc] at this;exact this
theorem prod_near {a b d s y p:Nat} (b0:0<b) (a1:a<18446744073709551616) (b1:b<18446744073709551616) (d1:d<18446744073709551616)
  (hs:Nr (a*Un) b s) (hy:Nr (d*Un) 1 y) (hp:Nr (V s*V y) Un p) (hq:a*d<=17179869184*b) :
  4*(V p*b)<=4*(a*d*Un)+Un*b/\4*(a*d*Un)<=4*(V p*b)+Un*b:=by
 have big:=Un_big;obtain ⟨U,hU⟩:∃ U,Un=U:=⟨_,rfl⟩;rw [hU] at hs hy hp big ⊢;clear hU;obtain ⟨S,hS⟩:∃ S,V s=S:=⟨_,rfl⟩;obtain ⟨Y,hY⟩:∃ Y,V y=Y:=⟨_,rfl⟩;obtain ⟨P,hP⟩:∃ P,V p=P:=⟨_,rfl⟩;have s1:=hs.up;have s2:=hs.down;have s3:=hs.twice;have y1:=hy.up;have y2:=hy.down;have y3:=hy.twice;have p1:=hp.up;have p2:=hp.down;have p3:=hp.twice;rw [hS] at s1 s2 s3 p1 p2 p3;rw [hY] at y1 y2 y3 p1 p2 p3;rw [hP] at p1 p2 p3 ⊢;rw [Nat.mul_one] at y1 y2 y3;clear hs hy hp hS hY hP;obtain ⟨aU,e5⟩:∃ t,a*U=t:=⟨_,rfl⟩;obtain ⟨dU,e6⟩:∃ t,d*U=t:=⟨_,rfl⟩;obtain ⟨Sb,e7⟩:∃ t,S*b=t:=⟨_,rfl⟩;obtain ⟨PU,e8⟩:∃ t,P*U=t:=⟨_,rfl⟩;obtain ⟨SY,e9⟩:∃ t,S*Y=t:=⟨_,rfl⟩;rw [e5,e7] at s1 s2 s3;rw [e6] at y1 y2 y3;rw [e8,e9] at p1 p2 p3;have f1:SY*b=Sb*Y:=by rw [<-e9,<-e7,Nat.mul_right_comm]
 have r1:=scale3 Y s1;have r2:=scale3 Y s2;have r3:=scale2 Y s3;have r4:=scale3 aU y1;have r5:=scale3 aU y2;have r6:=scale2 aU y3;have r7:=scale3 b p1;have r8:=scale3 b p2;have r9:=scale2 b p3;have r10:=scale2 b y3;rw [Nat.one_mul,Nat.mul_comm Y aU] at r4 r5 r6;rw [f1] at r7 r8 r9;rw [Nat.one_mul,Nat.mul_comm Y b] at r10;obtain ⟨W,hW⟩:∃ W,U*b*U=W:=⟨_,rfl⟩;have UU:1809251394333065553493296640760748560207343510400633813116524750123642650624*U<=U*U:=Nat.mul_le_mul_right U big;have WU:U*U<=W:=by
  rw [<-hW,Nat.mul_right_comm];exact Nat.le_mul_of_pos_right _ b0
 have k1:aU<=18446744073709551616*U:=by rw [<-e5];exact Nat.mul_le_mul_right U (by omega)
 have k2:dU*b<=340282366920938463463374607431768211456*U:=by
  have:d*b<=18446744073709551616*18446744073709551616:=Nat.mul_le_mul (by omega) (by omega)
  rw [<-e6,Nat.mul_right_comm];exact Nat.mul_le_mul_right U this
 have k3:U*b<=18446744073709551616*U:=by rw [Nat.mul_comm];exact Nat.mul_le_mul_right U (by omega)
 have k4:dU*aU<=17179869184*W:=by
  have h1:a*d*(U*U)<=17179869184*b*(U*U):=Nat.mul_le_mul_right _ hq;have e:dU*aU=a*d*(U*U):=by rw [<-e5,<-e6,Nat.mul_mul_mul_comm,Nat.mul_comm d a]
  have e':17179869184*b*(U*U)=17179869184*W:=by
   rw [<-hW,Nat.mul_assoc,Nat.mul_right_comm U b U,Nat.mul_comm (U*U) b]
  rw [e,<-e'];exact h1
 have fin:4*(PU*b)<=4*(dU*aU)+W/\4*(dU*aU)<=4*(PU*b)+W:=by omega
 have g1:PU*b=P*b*U:=by rw [<-e8,Nat.mul_right_comm]
 have g2:dU*aU=a*d*U*U:=by rw [<-e5,<-e6,Nat.mul_mul_mul_comm,Nat.mul_comm d a,<-Nat.mul_assoc]
 have U0:0<U:=by omega
 rw [g1,g2,<-hW] at fin;obtain ⟨fa,fb⟩:=fin;have e1:4*(P*b*U)=4*(P*b)*U:=(Nat.mul_assoc 4 (P*b) U).symm;have e2:4*(a*d*U*U)=4*(a*d*U)*U:=(Nat.mul_assoc 4 (a*d*U) U).symm;rw [e1,e2] at fa fb;rw [<-Nat.add_mul] at fa fb;exact ⟨Nat.le_of_mul_le_mul_right fa U0,Nat.le_of_mul_le_mul_right fb U0⟩
def rnd (X:Int) (r:Nat):Int:=if X<0 then -(V r:Int) else V r
theorem rnd_near {X:Int} {r:Nat} (h:Nr X.natAbs 1 r):9007199254740992*(rnd X r-X)<=2*X.natAbs+1+4503599627370496/\9007199254740992*(X-rnd X r)<=2*X.natAbs+1+4503599627370496:=by
 have h1:=h.up;have h2:=h.down;have h3:=h.twice;rw [Nat.mul_one,Nat.mul_one] at h1 h2;rw [Nat.mul_one] at h3;unfold rnd;split<;>omega
theorem line_near {a b d s y p r:Nat} {c:Int} (b0:0<b) (a1:a<18446744073709551616) (b1:b<18446744073709551616) (d1:d<18446744073709551616)
  (hs:Nr (a*Un) b s) (hy:Nr (d*Un) 1 y) (hp:Nr (V s*V y) Un p) (hq:a*d<=17179869184*b) (c0:-17179869184<=c) (c1:c<=17179869184)
  (hr:Nr ((V p:Int)+c*Un).natAbs 1 r) :
  2*(rnd ((V p:Int)+c*Un) r*b)<=2*(((a*d:Nat):Int)*Un+c*Un*b)+Un*b/\2*(((a*d:Nat):Int)*Un+c*Un*b)<=2*(rnd ((V p:Int)+c*Un) r*b)+Un*b:=by
 obtain ⟨h1,h2⟩:=prod_near b0 a1 b1 d1 hs hy hp hq;have big:=Un_big;obtain ⟨U,hU⟩:∃ U,Un=U:=⟨_,rfl⟩;rw [hU] at h1 h2 hr big ⊢;clear hU hs hy hp;obtain ⟨P,hP⟩:∃ P,V p=P:=⟨_,rfl⟩;rw [hP] at h1 h2 hr ⊢;clear hP;obtain ⟨n1,n2⟩:=rnd_near hr;have hPb:P*b<=17179869185*U*b:=by
  have k1:a*d*U<=17179869184*b*U:=Nat.mul_le_mul_right U hq;have e1:17179869184*b*U=17179869184*(U*b):=by rw [Nat.mul_assoc,Nat.mul_comm b U]
  have e2:17179869185*U*b=17179869185*(U*b):=Nat.mul_assoc _ _ _;omega
 have hP':P<=17179869185*U:=Nat.le_of_mul_le_mul_right hPb b0;have cU0:-(17179869184*(U:Int))<=c*U:=by
  have:=Int.mul_le_mul_of_nonneg_right c0 (show (0:Int)<=U by omega)
  omega
 have cU1:c*U<=17179869184*(U:Int):=Int.mul_le_mul_of_nonneg_right c1 (by omega)
 obtain ⟨X,hX⟩:∃ X,(P:Int)+c*U=X:=⟨_,rfl⟩;rw [hX] at n1 n2 ⊢;obtain ⟨R,hR⟩:∃ R,rnd X r=R:=⟨_,rfl⟩;rw [hR] at n1 n2 ⊢;have m1:4*(R-X)<=U/\4*(X-R)<=U:=by omega
 have bb:(0:Int)<=(b:Int):=by omega
 have t1:=Int.mul_le_mul_of_nonneg_right m1.1 bb;have t2:=Int.mul_le_mul_of_nonneg_right m1.2 bb;have e3:X*b=(P:Int)*b+c*U*b:=by rw [<-hX,Int.add_mul]
 have e4:4*(R-X)*(b:Int)=4*(R*b)-4*(X*b):=by rw [Int.mul_assoc,Int.sub_mul];omega
 have e5:4*(X-R)*(b:Int)=4*(X*b)-4*(R*b):=by rw [Int.mul_assoc,Int.sub_mul];omega
 rw [e4] at t1;rw [e5] at t2;have h1':4*((P:Int)*b)<=4*(((a*d:Nat):Int)*U)+(U:Int)*b:=by exact_mod_cast h1
 have h2':4*(((a*d:Nat):Int)*U)<=4*((P:Int)*b)+(U:Int)*b:=by exact_mod_cast h2
 omega
end Go.Proofs.YtemijdhemdhclaaGreat
