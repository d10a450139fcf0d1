/- Floats as whole numbers of 2^-1074: the ladder of finite floats, and which rung is nearest to a fraction: no Go in it. -/
import Derived.Test.YtcboobmfnmgldaaGreatBA
import Derived.Laws.FloatArith
set_option linter.unusedVariables false
namespace Go.Proofs.YtcboobmfnmgldaaGreat
open Ieee
def V (b:Nat):Nat:=if b<4503599627370496 then b else (4503599627370496+b%4503599627370496)*2^(b/4503599627370496-1)
theorem jd (e m:Nat) (h:m<=9007199254740992) (h':4503599627370496<=m\/e=0):V (e*4503599627370496+m)=m*2^e:=by
 unfold V;by_cases c:m<4503599627370496
 ·obtain rfl:e=0:=by omega
  rw [if_pos (by omega)];simp
 ·rw [if_neg (by omega)]
  by_cases k:m=9007199254740992
  ·have q:(e*4503599627370496+m)/4503599627370496=e+2:=by omega
   have r:(e*4503599627370496+m)%4503599627370496=0:=by omega
   rw [q,r,k,show e+2-1=e+1 from rfl,Nat.pow_succ];omega
  ·have q:(e*4503599627370496+m)/4503599627370496=e+1:=by omega
   have r:4503599627370496+(e*4503599627370496+m)%4503599627370496=m:=by omega
   rw [q,r,show e+1-1=e from rfl]
theorem form (b:Nat):∃ e m,b=e*4503599627370496+m/\m<9007199254740992/\(4503599627370496<=m\/e=0)/\e=b/4503599627370496-1:=by
 refine ⟨b/4503599627370496-1,b-(b/4503599627370496-1)*4503599627370496,?_,?_,?_,rfl⟩<;>omega
theorem ta (b:Nat):V (b+1)=V b+2^(b/4503599627370496-1):=by
 obtain ⟨e,m,hb,h1,h2,he⟩:=form b;have a:=jd e m (by omega) h2
 have c:=jd e (m+1) (by omega) (by omega)
 rw [<-he,hb,Nat.add_assoc,a,c,Nat.add_mul,Nat.one_mul]
theorem ze (b:Nat):V b<V (b+1):=by
 rw [ta];have:=Nat.two_pow_pos (b/4503599627370496-1);omega
variable {a b:Nat}
theorem tg (h:a<b):V a<V b:=by
 induction b with
 | zero=>omega
 | succ n ih =>
  have:=ze n
  by_cases k:a=n
  ·subst k;exact this
  ·have:=ih (by omega);omega
theorem iP (h:a<=b):V a<=V b:=by
 by_cases k:a=b
 ·subst k;exact Nat.le_refl _
 ·exact Nat.le_of_lt (tg (by omega))
theorem KQ:V a<=V b↔a<=b :=
 ⟨fun h=>by
  by_cases k:a<=b
  ·exact k
  ·have:=tg (Nat.lt_of_not_le k);omega,iP⟩
theorem Dc (h:V a=V b):a=b:=by
 have h1:a<=b:=KQ.1 (by omega)
 have h2:b<=a:=KQ.1 (by omega)
 omega
theorem oS:V 0=0:=rfl
structure Nr (x y b:Nat):Prop where
 lo:(V (b-1)+V b)*y<=2*x
 hi:2*x<=(V b+V (b+1))*y
 loe:(V (b-1)+V b)*y=2*x->b%2=0
 hie:2*x=(V b+V (b+1))*y->b%2=0
variable {x y x' y':Nat}
theorem XQ {A B:Nat} (h1:A*y<=2*x) (h2:2*x'<=B*y') (h:x*y'<=x'*y) (hB:B<=A) (hy:0<y) (gO:0<y') :
  A=B/\A*y=2*x/\2*x'=B*y':=by
 have a1:A*y*y'<=2*(x*y'):=by rw [<-Nat.mul_assoc];exact Nat.mul_le_mul_right _ h1
 have a2:2*(x'*y)<=B*y'*y:=by rw [<-Nat.mul_assoc];exact Nat.mul_le_mul_right _ h2
 have a3:B*(y'*y)<=A*(y'*y):=Nat.mul_le_mul_right _ hB;rw [Nat.mul_assoc,Nat.mul_comm y y'] at a1;rw [Nat.mul_assoc] at a2;have e:A*(y'*y)=B*(y'*y):=by omega
 have XR:A=B:=Nat.eq_of_mul_eq_mul_right (Nat.mul_pos gO hy) e;refine ⟨XR,?_,?_⟩
 ·have:A*y*y'=2*x*y':=by rw [Nat.mul_assoc,Nat.mul_comm y y',Nat.mul_assoc 2];omega
  exact Nat.eq_of_mul_eq_mul_right gO this
 ·have:2*x'*y=B*y'*y:=by rw [Nat.mul_assoc,Nat.mul_assoc];omega
  exact Nat.eq_of_mul_eq_mul_right hy this
theorem Nr.mono {b':Nat} (h:Nr x y b) (h':Nr x' y' b') (hy:0<y) (gO:0<y') (hx:x*y'<=x'*y):b<=b':=by
 rcases Nat.lt_or_ge b' b with k | k
 ·exfalso
  have k1:V b'<=V (b-1):=iP (by omega)
  have k2:V (b'+1)<=V b:=iP (by omega)
  obtain ⟨e1,e2,e3⟩:=XQ h.lo h'.hi hx (by omega) hy gO
  have p1:=h.loe e2;have p2:=h'.hie e3;have:b'=b-1:=Dc (by omega)
  omega
 ·exact k
theorem Nr.uniq {b':Nat} (h:Nr x y b) (h':Nr x y b') (hy:0<y):b=b' :=
 Nat.le_antisymm (h.mono h' hy hy (Nat.le_refl _)) (h'.mono h hy hy (Nat.le_refl _))
theorem Nr.scale (h:Nr x y b) (hy:0<y) (gO:0<y') (e:x*y'=x'*y):Nr x' y' b:=by
 have s1:∀ A,A*y'*y=A*y*y':=fun A=>by rw [Nat.mul_assoc,Nat.mul_assoc,Nat.mul_comm y]
 have s2:2*x'*y=2*x*y':=by rw [Nat.mul_assoc,Nat.mul_assoc,e]
 refine ⟨?_,?_,?_,?_⟩
 ·refine Nat.le_of_mul_le_mul_right ?_ hy
  rw [s1,s2];exact Nat.mul_le_mul_right _ h.lo
 ·refine Nat.le_of_mul_le_mul_right ?_ hy
  rw [s1,s2];exact Nat.mul_le_mul_right _ h.hi
 ·intro k
  refine h.loe (Nat.eq_of_mul_eq_mul_right gO ?_);rw [<-s1,<-s2,k]
 ·intro k
  refine h.hie (Nat.eq_of_mul_eq_mul_right gO ?_);rw [<-s1,<-s2,k]
theorem Nr.exact (b y:Nat) (hy:0<y):Nr (V b*y) y b:=by
 have h1:=iP (show b-1<=b by omega)
 have h2:=ze b;have e:2*(V b*y)=(V b+V b)*y:=by rw [Nat.add_mul];omega
 refine ⟨?_,?_,?_,?_⟩
 ·rw [e];exact Nat.mul_le_mul_right _ (by omega)
 ·rw [e];exact Nat.mul_le_mul_right _ (by omega)
 ·rw [e];intro k
  have:=Nat.eq_of_mul_eq_mul_right hy k
  have:b-1=b:=Dc (by omega)
  omega
 ·rw [e];intro k
  have:=Nat.eq_of_mul_eq_mul_right hy k
  omega
theorem Nr.of_eq (hy:0<y) (e:x=V b*y):Nr x y b:=e▸Nr.exact b y hy
def fQ (n g:Nat):Nat:=n/g+(decide (g<2*(n%g))||(g == 2*(n%g)&&n/g%2 == 1)).toNat
theorem KR (n g:Nat) (hg:0<g):(2*fQ n g)*g<=2*n+g/\2*n<=(2*fQ n g+1)*g/\(2*fQ n g*g=2*n+g->fQ n g%2=0)/\(2*n=(2*fQ n g+1)*g->fQ n g%2=0)/\n/g<=fQ n g/\fQ n g<=n/g+1/\(fQ n g=n/g+1->n/g%2=1\/g<2*(n%g)):=by
 have hd:=Nat.div_add_mod n g;have hm:=Nat.mod_lt n hg;unfold fQ;generalize n/g=q at *;generalize n%g=r at *;have e1:(2*(q+1))*g=2*(g*q)+2*g:=by rw [Nat.mul_add,Nat.add_mul,Nat.mul_comm g q,<-Nat.mul_assoc]
 have e2:(2*(q+1)+1)*g=2*(g*q)+3*g:=by rw [Nat.add_mul,e1];omega
 have e3:(2*q)*g=2*(g*q):=by rw [Nat.mul_comm g q,<-Nat.mul_assoc]
 have e4:(2*q+1)*g=2*(g*q)+g:=by rw [Nat.add_mul,e3];omega
 by_cases h:(decide (g<2*r)||(g == 2*r&&q%2 == 1))=true
 ·rw [h]
  simp only [Bool.toNat_true];have h':g<2*r\/g=2*r/\q%2=1:=by simpa using h
  rw [e1,e2];refine ⟨?_,?_,?_,?_,?_,?_,?_⟩<;>omega
 ·rw [Bool.eq_false_iff.2 h]
  simp only [Bool.toNat_false,Nat.add_zero];have h':¬ (g<2*r\/g=2*r/\q%2=1):=by simpa using h
  rw [e3,e4];refine ⟨?_,?_,?_,?_,?_,?_,?_⟩<;>omega
theorem Nr.of_rne (n g e:Nat) (hg:0<g) (hq:n/g<9007199254740992) (h2:4503599627370496<=n/g\/e=0) :
  Nr (n*2^e) g (e*4503599627370496+fQ n g):=by
 obtain ⟨r1,r2,r3,r4,r5,r6,r7⟩:=KR n g hg;generalize hm:fQ n g=m at *;have hp:=Nat.two_pow_pos e;have hV:V (e*4503599627370496+m)=m*2^e:=jd e m (by omega) (by omega)
 generalize hb:e*4503599627370496+m=b at *;have tv:V (b+1)>=(m+1)*2^e:=by
  rw [ta,hV,Nat.add_mul,Nat.one_mul];have:2^e<=2^(b/4503599627370496-1):=Nat.pow_le_pow_right (by decide) (by omega)
  omega
 have sx:2*(n*2^e)=2*n*2^e:=by rw [Nat.mul_assoc]
 have up1:(2*m+1)*g*2^e<=(V b+V (b+1))*g:=by
  rw [Nat.mul_assoc,Nat.mul_comm g,<-Nat.mul_assoc];refine Nat.mul_le_mul_right _ ?_;rw [hV];simp only [Nat.add_mul,Nat.one_mul] at tv ⊢;rw [Nat.mul_assoc];omega
 have u2:2*n*2^e<=(2*m+1)*g*2^e:=Nat.mul_le_mul_right _ r2;have par:b%2=m%2:=by omega
 have hie:2*(n*2^e)=(V b+V (b+1))*g->b%2=0:=by
  intro k;rw [sx] at k;have:2*n*2^e=(2*m+1)*g*2^e:=by omega
  have:=r4 (Nat.eq_of_mul_eq_mul_right hp this)
  omega
 by_cases zf:m=4503599627370496/\0<e
 ·obtain ⟨m0,e0⟩:=zf
  have q0:n/g=m:=by omega
  have n0:g*m<=n:=by rw [<-q0];exact Nat.mul_div_le n g
  have n1:V b*g<=n*2^e:=by
   rw [hV,Nat.mul_assoc,Nat.mul_comm _ g,<-Nat.mul_assoc,Nat.mul_comm m];exact Nat.mul_le_mul_right _ n0
  have n2:V (b-1)<V b:=tg (by omega)
  have n3:(V (b-1)+V b)*g<(V b+V b)*g:=Nat.mul_lt_mul_of_pos_right (by omega) hg
  have n4:(V b+V b)*g=V b*g+V b*g:=by rw [Nat.add_mul]
  exact ⟨by omega,by omega,by omega,hie⟩
 ·by_cases tz:b=0
  ·have:(V (b-1)+V b)*g=0:=by rw [tz];simp [oS]
   exact ⟨by omega,by omega,by omega,hie⟩
  ·have XS:0<m:=by omega
   have fD:V (b-1)+2^e<=V b:=by
    have s:=ta (b-1);rw [show b-1+1=b from by omega] at s
    rw [s];have:2^e<=2^((b-1)/4503599627370496-1):=Nat.pow_le_pow_right (by decide) (by omega)
    omega
   have lo1:(V (b-1)+V b)*g+g*2^e<=2*m*g*2^e:=by
    have z:(V (b-1)+V b+2^e)*g<=(2*m*2^e)*g:=Nat.mul_le_mul_right _ (by rw [hV] at fD ⊢;rw [Nat.mul_assoc];omega)
    rw [Nat.add_mul,Nat.mul_comm (2^e) g] at z;rw [Nat.mul_assoc (2*m),Nat.mul_comm g,<-Nat.mul_assoc];rw [Nat.mul_comm (2^e) g];exact z
   have lo2:2*m*g*2^e<=2*n*2^e+g*2^e:=by
    rw [<-Nat.add_mul];exact Nat.mul_le_mul_right _ r1
   have loe:(V (b-1)+V b)*g=2*(n*2^e)->b%2=0:=by
    intro k;rw [sx] at k;have:2*m*g*2^e=(2*n+g)*2^e:=by rw [Nat.add_mul];omega
    have:=r3 (Nat.eq_of_mul_eq_mul_right hp this)
    omega
   exact ⟨by omega,by omega,loe,hie⟩
def sg (wd:Nat):Bool:=wd/9223372036854775808%2 == 1
def rg (wd:Nat):Nat:=wd%9223372036854775808
def mg (r:Nat):Nat:=if r<4503599627370496 then r else 4503599627370496+r%4503599627370496
def xp (r:Nat):Nat:=r/4503599627370496-1
theorem nz (r:Nat):V r=mg r*2^xp r:=by
 unfold V mg xp;split
 ·rename_i h;rw [show r/4503599627370496-1=0 by omega];simp
 ·rfl
theorem KT (r:Nat):mg r<9007199254740992:=by unfold mg;split<;>omega
theorem least:double.leastPlace=-1074:=by decide
theorem bin:double.binade=4503599627370496:=by decide
theorem uX:double.signWeight=9223372036854775808:=by decide
theorem inf:double.infRung=9218868437227405312:=by decide
theorem iQ (h:rg x<9218868437227405312):double.read x=.number (sg x) (mg (rg x)) (-1074+(xp (rg x):Int)):=by
 unfold Format.read;rw [least,bin,uX,inf];simp only [<-show rg x=x%9223372036854775808 from rfl,<-show sg x=(x/9223372036854775808%2 == 1) from rfl];unfold mg xp;by_cases c:rg x<4503599627370496
 ·rw [if_pos c,if_pos c,show rg x/4503599627370496-1=0 by omega];rfl
 ·rw [if_neg c,if_pos h,if_neg c]
theorem uY (h:rg x=9218868437227405312):double.read x=.infinity (sg x):=by
 unfold Format.read;rw [least,bin,uX,inf];simp only [<-show rg x=x%9223372036854775808 from rfl,<-show sg x=(x/9223372036854775808%2 == 1) from rfl];rw [if_neg (by omega),if_neg (by omega),if_pos h]
theorem Dd (h:9218868437227405312<rg x):double.read x=.nan (sg x) (rg x-9218868437227405312):=by
 unfold Format.read;rw [least,bin,uX,inf];simp only [<-show rg x=x%9223372036854775808 from rfl,<-show sg x=(x/9223372036854775808%2 == 1) from rfl];rw [if_neg (by omega),if_neg (by omega),if_neg (by omega)]
def SV (x:Nat):Int:=if sg x then -(V (rg x):Int) else V (rg x)
theorem zg (s:Bool) (m u k:Nat):signed s m (u+k)=signed s m u*2^k:=by
 unfold signed;have e:m <<< (u+k)=m <<< u*2^k:=by rw [Nat.shiftLeft_eq,Nat.shiftLeft_eq,Nat.pow_add,Nat.mul_assoc]
 cases s<;>simp [e,Int.neg_mul]
theorem zh (x:Nat):SV x=signed (sg x) (mg (rg x)) (xp (rg x)):=by
 unfold SV signed;rw [nz,Nat.shiftLeft_eq]
theorem XU (a b k:Int) (h:0<k):compare (a*k) (b*k)=compare a b:=by
 show compareOfLessAndEq _ _=compareOfLessAndEq _ _;unfold compareOfLessAndEq;have e1:(a*k<b*k)↔a<b:=Int.mul_lt_mul_right h;have e2:(a*k=b*k)↔a=b:=Int.mul_eq_mul_right_iff (by omega)
 simp only [e1,e2]
theorem two_pow_pos (k:Nat):(0:Int)<2^k:=Int.pow_pos (by decide)
theorem De (hx:rg x<9218868437227405312) (hy:rg y<9218868437227405312):double.order x y=some (compare (SV x) (SV y)):=by
 unfold Format.order;rw [iQ hx,iQ hy];unfold Datum.order;simp only;have e:min (-1074+(xp (rg x):Int)) (-1074+(xp (rg y):Int))=-1074+((min (xp (rg x)) (xp (rg y)):Nat):Int):=by omega
 rw [e];have e1:(-1074+(xp (rg x):Int)-(-1074+((min (xp (rg x)) (xp (rg y)):Nat):Int))).toNat=xp (rg x)-min (xp (rg x)) (xp (rg y)):=by omega
 have e2:(-1074+(xp (rg y):Int)-(-1074+((min (xp (rg x)) (xp (rg y)):Nat):Int))).toNat=xp (rg y)-min (xp (rg x)) (xp (rg y)):=by omega
 rw [e1,e2];have f1:SV x=signed (sg x) (mg (rg x)) (xp (rg x)-min (xp (rg x)) (xp (rg y)))*2^(min (xp (rg x)) (xp (rg y))):=by
  rw [<-zg,zh];congr 1;omega
 have f2:SV y=signed (sg y) (mg (rg y)) (xp (rg y)-min (xp (rg x)) (xp (rg y)))*2^(min (xp (rg x)) (xp (rg y))):=by
  rw [<-zg,zh];congr 1;omega
 rw [f1,f2,XU _ _ _ (two_pow_pos _)]
theorem XW (a b:Int):(some (compare a b) == some Ordering.lt)=decide (a<b):=by
 rw [show compare a b=compareOfLessAndEq a b from rfl];unfold compareOfLessAndEq;by_cases h:a<b
 ·simp [h]
 ·by_cases k:a=b<;>simp [h,k]
theorem XY (a b:Int):(some (compare a b) == some Ordering.eq)=decide (a=b):=by
 rw [show compare a b=compareOfLessAndEq a b from rfl];unfold compareOfLessAndEq;by_cases h:a<b
 ·have:¬ a=b:=by omega
  simp [h,this]
 ·by_cases k:a=b<;>simp [h,k]
theorem XZ (a b:Int):(some (compare a b) == some Ordering.gt)=decide (b<a):=by
 rw [show compare a b=compareOfLessAndEq a b from rfl];unfold compareOfLessAndEq;by_cases h:a<b
 ·have:¬ b<a:=by omega
  simp [h,this]
 ·by_cases k:a=b
  ·simp [k]
  ·have:b<a:=by omega
   simp [h,k,this]
theorem KU (hx:rg x<9218868437227405312) (hy:rg y<9218868437227405312):(double.order x y == some .lt)=decide (SV x<SV y):=by rw [De hx hy,XW]
theorem zj (hx:rg x<9218868437227405312) (hy:rg y<9218868437227405312):(double.order x y == some .gt)=decide (SV y<SV x):=by rw [De hx hy,XZ]
theorem KV (hx:rg x<9218868437227405312) (hy:rg y<9218868437227405312):(double.order x y == some .eq)=decide (SV x=SV y):=by rw [De hx hy,XY]
theorem X4 (hx:rg x<9218868437227405312) (hy:rg y<9218868437227405312):(double.order x y != some .eq)=!decide (SV x=SV y):=by rw [bne,KV hx hy]
theorem Df (hx:rg x<9218868437227405312) (hy:rg y<9218868437227405312):(double.order x y == some .gt||double.order x y == some .eq)=decide (SV y<=SV x):=by
 rw [zj hx hy,KV hx hy];by_cases h:SV y<SV x
 ·have:SV y<=SV x:=by omega
  simp [h,this]
 ·by_cases k:SV x=SV y
  ·simp [k]
  ·have:¬ SV y<=SV x:=by omega
   simp [h,k,this]
theorem X5 (neg:Bool) (n d:Nat):Toward.even.cut neg n d=fQ n (2^d):=by
 unfold Toward.cut fQ;simp only [Nat.one_shiftLeft];have hl:n<2^(n.log2+1):=Nat.lt_log2_self;by_cases h:d<=n.log2+2
 ·rw [Nat.min_eq_left h]
 ·rw [Nat.min_eq_right (by omega)]
  have p1:2^(n.log2+2)=2*2^(n.log2+1):=by rw [Nat.pow_succ,Nat.mul_comm]
  have p2:2^(n.log2+2)<=2^d:=Nat.pow_le_pow_right (by decide) (by omega)
  have q1:n/2^(n.log2+2)=0:=Nat.div_eq_of_lt (by omega)
  have q2:n%2^(n.log2+2)=n:=Nat.mod_eq_of_lt (by omega)
  have q3:n/2^d=0:=Nat.div_eq_of_lt (by omega)
  have q4:n%2^d=n:=Nat.mod_eq_of_lt (by omega)
  rw [q1,q2,q3,q4];have d1:decide (2^(n.log2+2)<2*n)=false:=decide_eq_false (by omega)
  have d2:decide (2^d<2*n)=false:=decide_eq_false (by omega)
  rw [d1,d2];simp
theorem Dg (neg:Bool) (cZ:Nat) (place:Int) (b a c:Nat) (h0:0<cZ) (hp:place+1074=(a:Int)-c) (h:Nr (cZ*2^a) (2^c) b) :
  double.nearest neg cZ place=double.word neg (min b 9218868437227405312):=by
 have l1:2^cZ.log2<=cZ:=Nat.log2_self_le (by omega)
 have l2:cZ<2^(cZ.log2+1):=Nat.lt_log2_self;unfold Format.nearest;rw [if_neg (by omega),least,bin,inf]
 simp only [X5,Nat.shiftLeft_eq,show double.fractionBits=52 from rfl];generalize hL:cZ.log2=L at *;generalize hl:max (place+(L:Int)-(52:Nat)) (-1074)=last;generalize hd:(last-place).toNat=d;generalize hu:(place-last).toNat=u;generalize he:(last - -1074).toNat=e;have pd:=Nat.two_pow_pos d;have pu:=Nat.two_pow_pos u;have pc:=Nat.two_pow_pos c;have n1:cZ*2^u/2^d<9007199254740992:=by
  refine Nat.div_lt_of_lt_mul ?_;have z1:cZ*2^u<2^(L+1)*2^u:=Nat.mul_lt_mul_of_pos_right l2 pu;have z2:2^(L+1)*2^u<=2^d*9007199254740992:=by
   rw [<-Nat.pow_add,show (9007199254740992:Nat)=2^53 from rfl,<-Nat.pow_add];exact Nat.pow_le_pow_right (by decide) (by omega)
  omega
 have n2:4503599627370496<=cZ*2^u/2^d\/e=0:=by
  by_cases k:e=0
  ·exact .inr k
  ·refine .inl ((Nat.le_div_iff_mul_le pd).2 ?_)
   have z1:2^L*2^u<=cZ*2^u:=Nat.mul_le_mul_right _ l1;have z2:4503599627370496*2^d<=2^L*2^u:=by
    rw [<-Nat.pow_add,show (4503599627370496:Nat)=2^52 from rfl,<-Nat.pow_add];exact Nat.pow_le_pow_right (by decide) (by omega)
   omega
 have key:=Nr.of_rne (cZ*2^u) (2^d) e pd n1 n2;have X6:Nr (cZ*2^a) (2^c) (e*4503599627370496+fQ (cZ*2^u) (2^d)):=by
  refine key.scale pd pc ?_;rw [Nat.mul_assoc,Nat.mul_assoc,Nat.mul_assoc,<-Nat.pow_add,<-Nat.pow_add,<-Nat.pow_add];congr 2;omega
 rw [X6.uniq h pc]
theorem Nr.zero (y:Nat) (hy:0<y):Nr 0 y 0:=Nr.of_eq hy (by rw [oS];omega)
theorem Dh (neg:Bool) (cZ:Nat) (place:Int) (a c:Nat) (hp:place+1074=(a:Int)-c) :
  ∃ b,Nr (cZ*2^a) (2^c) b/\double.nearest neg cZ place=double.word neg (min b 9218868437227405312):=by
 have pc:=Nat.two_pow_pos c;by_cases h0:cZ=0
 ·refine ⟨0,by rw [h0,Nat.zero_mul];exact Nr.zero _ pc,?_⟩
  unfold Format.nearest;rw [if_pos h0];rfl
 ·have l1:2^cZ.log2<=cZ:=Nat.log2_self_le (by omega)
  have l2:cZ<2^(cZ.log2+1):=Nat.lt_log2_self
  suffices ∃ b,Nr (cZ*2^a) (2^c) b by
   obtain ⟨b,hb⟩:=this;exact ⟨b,hb,Dg neg cZ place b a c (by omega) hp hb⟩
  generalize hL:cZ.log2=L at *;have:=Nat.two_pow_pos a;obtain ⟨e,u,d,q1,q2,q3⟩:∃ e u d:Nat,L+1+u<=53+d/\(52+d<=L+u\/e=0)/\u+e+c=a+d:=by
   by_cases k:a+L<=52+c
   ·exact ⟨0,a,c,by omega,.inr rfl,by omega⟩
   ·by_cases k2:L<=52
    ·exact ⟨a-c-(52-L),52-L,0,by omega,by omega,by omega⟩
    ·exact ⟨a+(L-52)-c,0,L-52,by omega,by omega,by omega⟩
  have pd:=Nat.two_pow_pos d;have pu:=Nat.two_pow_pos u;have n1:cZ*2^u/2^d<9007199254740992:=by
   refine Nat.div_lt_of_lt_mul ?_;have z1:cZ*2^u<2^(L+1)*2^u:=Nat.mul_lt_mul_of_pos_right l2 pu;have z2:2^(L+1)*2^u<=2^d*9007199254740992:=by
    rw [<-Nat.pow_add,show (9007199254740992:Nat)=2^53 from rfl,<-Nat.pow_add];exact Nat.pow_le_pow_right (by decide) (by omega)
   omega
  have n2:4503599627370496<=cZ*2^u/2^d\/e=0:=by
   rcases q2 with q2 | q2
   ·refine .inl ((Nat.le_div_iff_mul_le pd).2 ?_)
    have z1:2^L*2^u<=cZ*2^u:=Nat.mul_le_mul_right _ l1;have z2:4503599627370496*2^d<=2^L*2^u:=by
     rw [<-Nat.pow_add,show (4503599627370496:Nat)=2^52 from rfl,<-Nat.pow_add];exact Nat.pow_le_pow_right (by decide) (by omega)
    omega
   ·exact .inr q2
  refine ⟨_,(Nr.of_rne (cZ*2^u) (2^d) e pd n1 n2).scale pd pc ?_⟩;rw [Nat.mul_assoc,Nat.mul_assoc,Nat.mul_assoc,<-Nat.pow_add,<-Nat.pow_add,<-Nat.pow_add];congr 2;omega
theorem uZ (neg:Bool) (b:Nat) (h:b<9223372036854775808):rg (double.word neg b)=b:=by
 unfold rg Format.word;rw [uX];split<;>omega
theorem KW (neg:Bool) (b:Nat) (h:b<9223372036854775808):sg (double.word neg b)=neg:=by
 unfold sg Format.word;rw [uX];cases neg
 ·simp;omega
 ·simp;omega
theorem Di (b:Nat):double.word false b=b:=rfl
theorem X9 (t:Int) (k:Nat):t.natAbs*2^k=(t*2^k).natAbs:=by
 rw [Int.natAbs_mul,Int.natAbs_pow];rfl
theorem Ya (s t:Bool) (m n i j:Nat) :
  ∃ b,Nr (signed s m i+signed t n j).natAbs 1 b/\((Datum.number s m (-1074+(i:Int))).sum (.number t n (-1074+(j:Int)))).map double.write =
   some (double.word (if signed s m i+signed t n j=0 then s&&t else signed s m i+signed t n j<0) (min b 9218868437227405312)):=by
 have e:min (-1074+(i:Int)) (-1074+(j:Int))=-1074+((min i j:Nat):Int):=by omega
 have e1:(-1074+(i:Int)-(-1074+((min i j:Nat):Int))).toNat=i-min i j:=by omega
 have e2:(-1074+(j:Int)-(-1074+((min i j:Nat):Int))).toNat=j-min i j:=by omega
 unfold Datum.sum;simp only [e,e1,e2,Option.map];have f1:signed s m i=signed s m (i-min i j)*2^(min i j):=by rw [<-zg];congr 1;omega
 have f2:signed t n j=signed t n (j-min i j)*2^(min i j):=by rw [<-zg];congr 1;omega
 rw [f1,f2,<-Int.add_mul,<-X9];generalize signed s m (i-min i j)+signed t n (j-min i j)=tot;generalize min i j=k;have hp:=two_pow_pos k;have z1:(tot*2^k=0)↔tot=0:=⟨fun h=>by rcases Int.mul_eq_zero.1 h with h | h<;>omega,fun h=>by rw [h];simp⟩
 have z2:(tot*2^k<0)↔tot<0:=by
  have:=Int.mul_lt_mul_right (b:=tot) (c:=0) hp
  rw [Int.zero_mul] at this;exact this
 obtain ⟨b,hb,hw⟩:=Dh (if tot=0 then s&&t else decide (tot<0)) tot.natAbs (-1074+(k:Int)) k 0 (by omega)
 refine ⟨b,by simpa using hb,?_⟩
 show some (double.nearest _ _ _)=_;rw [hw];congr 2;by_cases c:tot=0
 ·rw [if_pos c,if_pos (z1.2 c)]
 ·rw [if_neg c,if_neg (fun h=>c (z1.1 h))]
  simp only [z2]
theorem Yb (hx:rg x<9218868437227405312) (hy:rg y<9218868437227405312) :
  ∃ b,Nr (SV x+SV y).natAbs 1 b/\double.add x y=some (double.word (if SV x+SV y=0 then sg x&&sg y else SV x+SV y<0) (min b 9218868437227405312)):=by
 unfold Format.add;rw [iQ hx,iQ hy,zh,zh];exact Ya _ _ _ _ _ _
def KY (k:Nat):Nat:=2^k
def Un:Nat:=KY 1074
theorem tB (k:Nat) (h:k=1074):2^k=Un:=congrArg KY h
theorem kZ:∃ k,k=1074/\Un=2^k:=⟨1074,rfl,(tB 1074 rfl).symm⟩
theorem jJ:0<Un:=by obtain ⟨k,_,e⟩:=kZ;rw [e];exact Nat.two_pow_pos k
theorem tD (k:Nat):2^k*Un=2^(k+1074):=by obtain ⟨j,h,e⟩:=kZ;rw [e,<-h,Nat.pow_add]
theorem KZ (hx:rg x<9218868437227405312) (hy:rg y<9218868437227405312) :
  ∃ b,Nr (V (rg x)*V (rg y)) (Un) b/\double.mul x y=some (double.word (sg x ^^ sg y) (min b 9218868437227405312)):=by
 unfold Format.mul;rw [iQ hx,iQ hy];obtain ⟨k,hk,hU⟩:=kZ;obtain ⟨b,hb,hw⟩:=Dh (sg x ^^ sg y) (mg (rg x)*mg (rg y)) (-1074+(xp (rg x):Int)+(-1074+(xp (rg y):Int))) (xp (rg x)+xp (rg y)) k (by omega)
 refine ⟨b,?_,?_⟩
 ·rw [nz,nz (rg y)]
  have:mg (rg x)*2^xp (rg x)*(mg (rg y)*2^xp (rg y))=mg (rg x)*mg (rg y)*2^(xp (rg x)+xp (rg y)):=by
   rw [Nat.pow_add,Nat.mul_mul_mul_comm]
  rw [this,hU];exact hb
 ·show some (double.nearest _ _ _)=_
  rw [hw]
theorem Yc (neg:Bool) (n d:Nat):Toward.zero.cut neg n d=n/2^d:=by
 unfold Toward.cut;simp only [Nat.one_shiftLeft,Bool.toNat_false,Nat.add_zero];have hl:n<2^(n.log2+1):=Nat.lt_log2_self;by_cases h:d<=n.log2+2
 ·rw [Nat.min_eq_left h]
 ·rw [Nat.min_eq_right (by omega)]
  have p1:2^(n.log2+2)=2*2^(n.log2+1):=by rw [Nat.pow_succ,Nat.mul_comm]
  have p2:2^(n.log2+2)<=2^d:=Nat.pow_le_pow_right (by decide) (by omega)
  rw [Nat.div_eq_of_lt (by omega),Nat.div_eq_of_lt (by omega)]
theorem K0 (m k:Nat):m*2^((-1074+(k:Int)).toNat)/2^((-(-1074+(k:Int))).toNat)=m*2^k/Un:=by
 by_cases h:1074<=k
 ·rw [show (-1074+(k:Int)).toNat=k-1074 by omega,show (-(-1074+(k:Int))).toNat=0 by omega,Nat.pow_zero,Nat.div_one]
  refine (Nat.div_eq_of_eq_mul_left jJ ?_).symm;rw [Nat.mul_assoc,tD (k-1074)];congr 2;omega
 ·rw [show (-1074+(k:Int)).toNat=0 by omega,show (-(-1074+(k:Int))).toNat=1074-k by omega,Nat.pow_zero,Nat.mul_one]
  have:Un=2^(1074-k)*2^k:=by rw [<-Nat.pow_add,tB _ (show 1074-k+k=1074 by omega)]
  rw [this,Nat.mul_div_mul_right _ _ (Nat.two_pow_pos _)]
theorem toInt_fin (hx:rg x<9218868437227405312):(double.read x).toInt .zero=some (if sg x then -((V (rg x)/Un:Nat):Int) else (V (rg x)/Un:Nat)):=by
 rw [iQ hx];unfold Datum.toInt Datum.integral;simp only [Yc,Nat.shiftLeft_eq];rw [K0,<-nz];unfold signed;simp only [Nat.shiftLeft_zero]
theorem Yd (neg:Bool) (n d:Nat):Toward.down.cut neg n d=n/2^d+(neg&&n%2^d != 0).toNat:=by
 unfold Toward.cut;simp only [Nat.one_shiftLeft];have hl:n<2^(n.log2+1):=Nat.lt_log2_self;by_cases h:d<=n.log2+2
 ·rw [Nat.min_eq_left h]
 ·rw [Nat.min_eq_right (by omega)]
  have p1:2^(n.log2+2)=2*2^(n.log2+1):=by rw [Nat.pow_succ,Nat.mul_comm]
  have p2:2^(n.log2+2)<=2^d:=Nat.pow_le_pow_right (by decide) (by omega)
  have q1:n/2^(n.log2+2)=0:=Nat.div_eq_of_lt (by omega)
  have q2:n%2^(n.log2+2)=n:=Nat.mod_eq_of_lt (by omega)
  have q3:n/2^d=0:=Nat.div_eq_of_lt (by omega)
  have q4:n%2^d=n:=Nat.mod_eq_of_lt (by omega)
  rw [q1,q2,q3,q4]
theorem Ye (m k:Nat):(m*2^((-1074+(k:Int)).toNat)%2^((-(-1074+(k:Int))).toNat) != 0)=(m*2^k%Un != 0):=by
 by_cases h:1074<=k
 ·rw [show (-(-1074+(k:Int))).toNat=0 by omega,Nat.pow_zero,Nat.mod_one]
  have:m*2^k=m*2^(k-1074)*Un:=by rw [Nat.mul_assoc,tD (k-1074)];congr 2;omega
  rw [this,Nat.mul_mod_left]
 ·rw [show (-1074+(k:Int)).toNat=0 by omega,show (-(-1074+(k:Int))).toNat=1074-k by omega,Nat.pow_zero,Nat.mul_one]
  have hp:=Nat.two_pow_pos k;have:Un=2^(1074-k)*2^k:=by rw [<-Nat.pow_add,tB _ (show 1074-k+k=1074 by omega)]
  rw [this,Nat.mul_mod_mul_right];by_cases z:m%2^(1074-k)=0
  ·rw [z,Nat.zero_mul]
  ·have z2:¬ m%2^(1074-k)*2^k=0:=Nat.ne_of_gt (Nat.mul_pos (Nat.pos_of_ne_zero z) hp)
   rw [bne,bne,beq_false_of_ne z,beq_false_of_ne z2]
theorem Dj (k:Nat) (h:k<=9007199254740992):∃ b,b<9218868437227405312/\V b=k*Un:=by
 by_cases h0:k=0
 ·exact ⟨0,by decide,by rw [h0,oS,Nat.zero_mul]⟩
 ·have l1:2^k.log2<=k:=Nat.log2_self_le h0
  have l2:k<2^(k.log2+1):=Nat.lt_log2_self;by_cases h1:k=9007199254740992
  ·refine ⟨1074*4503599627370496+9007199254740992,by decide,?_⟩
   rw [jd 1074 9007199254740992 (by decide) (.inl (by decide)),h1]
   obtain ⟨j,hj,e⟩:=kZ;rw [e,hj]
  ·have hL:k.log2<=52:=by
    rcases Nat.lt_or_ge k.log2 53 with z | z
    ·omega
    ·have:2^53<=2^k.log2:=Nat.pow_le_pow_right (by decide) z
     omega
   generalize k.log2=L at *;have e1:4503599627370496<=k*2^(52-L):=by
    have:2^L*2^(52-L)<=k*2^(52-L):=Nat.mul_le_mul_right _ l1
    rw [<-Nat.pow_add,show L+(52-L)=52 by omega] at this
    exact this
   have e2:k*2^(52-L)<9007199254740992:=by
    have:k*2^(52-L)<2^(L+1)*2^(52-L):=Nat.mul_lt_mul_of_pos_right l2 (Nat.two_pow_pos _)
    rw [<-Nat.pow_add,show L+1+(52-L)=53 by omega] at this
    exact this
   refine ⟨(1074-(52-L))*4503599627370496+k*2^(52-L),by omega,?_⟩
   rw [jd _ _ (by omega) (.inl e1),Nat.mul_assoc,<-Nat.pow_add,tB _ (by omega)]
variable {r:Nat}
theorem Yf (h:r<9218868437227405312):∃ b,b<9218868437227405312/\V b=V r/Un*Un:=by
 by_cases c:1074<=xp r
 ·refine ⟨r,h,?_⟩
  have e:V r=mg r*2^(xp r-1074)*Un:=by
   rw [nz,Nat.mul_assoc,tD];congr 2;omega
  rw [e,Nat.mul_div_cancel _ jJ]
 ·refine Dj _ ?_
  have e:Un=2^(1074-xp r)*2^xp r:=by rw [<-Nat.pow_add,tB _ (by omega)]
  rw [nz,e,Nat.mul_div_mul_right _ _ (Nat.two_pow_pos _)];have:=KT r;have:=Nat.div_le_self (mg r) (2^(1074-xp r));omega
theorem Yg (h:r<9218868437227405312):∃ b,b<9218868437227405312/\V b=(V r/Un+(V r%Un != 0).toNat)*Un:=by
 by_cases c:1074<=xp r
 ·refine ⟨r,h,?_⟩
  have e:V r=mg r*2^(xp r-1074)*Un:=by
   rw [nz,Nat.mul_assoc,tD];congr 2;omega
  have e2:V r%Un=0:=by rw [e,Nat.mul_mod_left]
  rw [e2,e,Nat.mul_div_cancel _ jJ];simp
 ·refine Dj _ ?_
  have e:Un=2^(1074-xp r)*2^xp r:=by rw [<-Nat.pow_add,tB _ (by omega)]
  have q:V r/Un=mg r/2^(1074-xp r):=by rw [nz,e,Nat.mul_div_mul_right _ _ (Nat.two_pow_pos _)]
  have:=KT r
  have:=Nat.div_le_self (mg r) (2^(1074-xp r))
  have:=Bool.toNat_le (V r%Un != 0)
  omega
theorem Dk (neg:Bool) (k b:Nat) (hb:b<9218868437227405312) (hV:V b=k*Un):double.nearest neg k 0=double.word neg b:=by
 by_cases h0:k=0
 ·have:b=0:=Dc (by rw [hV,h0,Nat.zero_mul,oS])
  unfold Format.nearest;rw [if_pos h0,this]
 ·obtain ⟨j,hj,e⟩:=kZ
  rw [Dg neg k 0 b j 0 (by omega) (by omega) (Nr.of_eq (by decide) (by rw [hV,e,Nat.pow_zero,Nat.mul_one])),Nat.min_eq_left (by omega)]
theorem K3 (n:Int) (b:Nat) (hb:b<9218868437227405312) (hV:V b=n.natAbs*Un):floatOfInt .f64 n=double.word (n<0) b:=by
 show double.nearest (decide (n<0)) n.natAbs 0=_;exact Dk _ _ _ hb hV
theorem K7 (n:Int):∃ b,Nr (n.natAbs*Un) 1 b/\floatOfInt .f64 n=double.word (n<0) (min b 9218868437227405312):=by
 show ∃ b,_/\double.nearest (decide (n<0)) n.natAbs 0=_;obtain ⟨j,hj,e⟩:=kZ;obtain ⟨b,h1,h2⟩:=Dh (decide (n<0)) n.natAbs 0 j 0 (by omega)
 exact ⟨b,by rw [e];exact h1,h2⟩
theorem La (neg:Bool) (b:Nat) (h:b<9223372036854775808):SV (double.word neg b)=if neg then -(V b:Int) else V b:=by
 unfold SV;rw [KW _ _ h,uZ _ _ h]
def c9 (x:Nat):Int:=SV x/(Un:Int)
def flb (x:Nat):Nat:=double.write ((double.read x).integral .down)
theorem zm (x:Nat):c9 x=if sg x then -((V (rg x)/Un+(V (rg x)%Un != 0).toNat:Nat):Int) else ((V (rg x)/Un:Nat):Int):=by
 have hU:=jJ;unfold c9 SV;cases sg x
 ·simp
 ·simp only [if_true]
  have hd:=Nat.div_add_mod (V (rg x)) Un;have hm:=Nat.mod_lt (V (rg x)) hU;generalize V (rg x)/Un=q at *;generalize V (rg x)%Un=r at *;rw [<-hd];by_cases z:r=0
  ·subst z
   rw [show (-((Un*q+0:Nat):Int))=(Un:Int)*(-(q:Int)) by rw [Nat.add_zero,Int.natCast_mul,Int.mul_neg],Int.mul_ediv_cancel_left _ (by omega)]
   simp
  ·have b:(r != 0)=true:=by simp [z]
   rw [b];have e:(-((Un*q+r:Nat):Int))=((Un-r:Nat):Int)+(Un:Int)*(-((q:Int)+1)):=by
    rw [Int.mul_neg,Int.mul_add,Int.natCast_add,Int.natCast_mul];omega
   rw [e,Int.add_mul_ediv_left _ _ (by omega),Int.ediv_eq_zero_of_lt (by omega) (by omega)]
   simp
theorem Yh (hx:rg x<9218868437227405312):∃ b,b<9218868437227405312/\flb x=double.word (sg x) b/\V b=(c9 x).natAbs*Un:=by
 unfold flb;rw [iQ hx,zm];unfold Datum.integral;simp only [Yd,Nat.shiftLeft_eq,Format.write];rw [K0,Ye,<-nz];cases sg x
 ·obtain ⟨b,hb,hV⟩:=Yf hx
  refine ⟨b,hb,?_,?_⟩
  ·simp only [Bool.false_and,Bool.toNat_false,Nat.add_zero]
   exact Dk _ _ _ hb hV
  ·rw [if_neg (by decide),Int.natAbs_natCast];exact hV
 ·obtain ⟨b,hb,hV⟩:=Yg hx
  refine ⟨b,hb,?_,?_⟩
  ·simp only [Bool.true_and]
   exact Dk _ _ _ hb hV
  ·rw [if_pos rfl,Int.natAbs_neg,Int.natAbs_natCast];exact hV
theorem Yi (neg:Bool) (b k:Nat) (hb:b<9218868437227405312) (hV:V b=k*Un):(double.read (double.word neg b)).toInt .zero=some (if neg then -(k:Int) else k):=by
 have hl:b<9223372036854775808:=by omega
 rw [toInt_fin (by rw [uZ _ _ hl];exact hb),KW _ _ hl,uZ _ _ hl,hV,Nat.mul_div_cancel _ jJ]
theorem Yj (x:Nat):(if sg x then -((c9 x).natAbs:Int) else (c9 x).natAbs)=c9 x:=by
 rw [zm];cases sg x
 ·rw [if_neg (by decide),if_neg (by decide),Int.natAbs_natCast]
 ·rw [if_pos rfl,if_pos rfl,Int.natAbs_neg,Int.natAbs_natCast]
theorem Yk (hx:rg x<9218868437227405312) (h0:-9223372036854775808<=c9 x) (h1:c9 x<9223372036854775808):floatToIntVal .f64 (flb x) .i64=some (c9 x):=by
 obtain ⟨b,hb,e,hV⟩:=Yh hx;unfold floatToIntVal;show (match (double.read (flb x)).toInt .zero with | some n=>_ | none=>_)=_
 rw [e,Yi _ _ _ hb hV,Yj];simp only;rw [if_pos];exact ⟨h0,by show c9 x<=9223372036854775807;omega⟩
def l6 (x:Nat):Int:=if sg x then -((V (rg x)/Un:Nat):Int) else (V (rg x)/Un:Nat)
theorem Yl (x:Nat):(SV x<l6 x*Un->c9 x=l6 x-1)/\(¬ SV x<l6 x*Un->c9 x=l6 x):=by
 have hU:=jJ;rw [zm];unfold l6 SV;have hd:=Nat.div_add_mod (V (rg x)) Un;have hm:=Nat.mod_lt (V (rg x)) hU;generalize V (rg x)/Un=q at *;generalize V (rg x)%Un=r at *;rw [<-hd];cases sg x
 ·simp only [if_neg (show ¬ false=true by decide)]
  have:((Un*q+r:Nat):Int)=(q:Int)*Un+r:=by rw [Int.natCast_add,Int.natCast_mul,Int.mul_comm]
  rw [this];exact ⟨fun h=>by omega,fun _=>trivial⟩
 ·simp only [if_true]
  have:((Un*q+r:Nat):Int)=(q:Int)*Un+r:=by rw [Int.natCast_add,Int.natCast_mul,Int.mul_comm]
  rw [this,Int.neg_mul];by_cases z:r=0
  ·subst z
   exact ⟨fun h=>by omega,fun _=>by simp⟩
  ·have b:(r != 0)=true:=by simp [z]
   rw [b];exact ⟨fun h=>by simp;omega,fun h=>by omega⟩
theorem zp (k:Nat):V ((k+1023)*4503599627370496)=2^k*Un:=by
 have:=jd (k+1022) 4503599627370496 (by decide) (.inl (by decide))
 rw [show (k+1022)*4503599627370496+4503599627370496=(k+1023)*4503599627370496 by omega] at this
 rw [this,show (4503599627370496:Nat)=2^52 from rfl,<-Nat.pow_add,tD,show 52+(k+1022)=k+1074 by omega]
theorem V2:V 4611686018427387904=2*Un:=by
 have h:=zp 1;rw [show (1+1023)*4503599627370496=4611686018427387904 from rfl,show (2:Nat)^1=2 from rfl] at h;exact h
theorem V1:V 4607182418800017408=Un:=by
 have h:=zp 0;rw [show (0+1023)*4503599627370496=4607182418800017408 from rfl,show (2:Nat)^0=1 from rfl,Nat.one_mul] at h;exact h
def qH (t:Nat):Nat:=if t<4503599627370496 then 2*t else t+4503599627370496
theorem Ym (t:Nat):V (qH t)=2*V t:=by
 unfold qH;split
 ·rename_i h
  have a:=jd 0 t (by omega) (.inr rfl)
  have b:=jd 0 (2*t) (by omega) (.inr rfl)
  simp only [Nat.zero_mul,Nat.zero_add,Nat.pow_zero,Nat.mul_one] at a b;rw [a,b]
 ·rename_i h
  obtain ⟨e,m,rfl,h1,h2,-⟩:=form t;have a:=jd e m (by omega) h2
  have b:=jd (e+1) m (by omega) (by omega)
  rw [show e*4503599627370496+m+4503599627370496=(e+1)*4503599627370496+m by omega,a,b,Nat.pow_succ,Nat.mul_comm (2^e),<-Nat.mul_assoc,Nat.mul_comm m 2,Nat.mul_assoc]
theorem Yn (t:Nat):qH t<=t+4503599627370496:=by unfold qH;split<;>omega
theorem Yo {t:Nat} (h:t+4503599627370496<9218868437227405312):double.mul t 4611686018427387904=some (qH t):=by
 have hr:rg t=t:=Nat.mod_eq_of_lt (by omega)
 have hs:sg t=false:=by unfold sg;simp;omega
 obtain ⟨b,hb,e⟩:=KZ (x:=t) (y:=4611686018427387904) (by omega) (by decide)
 rw [hr,show rg 4611686018427387904=4611686018427387904 from rfl,V2] at hb;have hd:b=qH t:=by
  refine hb.uniq (Nr.of_eq jJ ?_) jJ;rw [Ym,<-Nat.mul_assoc,Nat.mul_comm (V t) 2]
 have:=Yn t
 rw [e,hd,hs,show sg 4611686018427387904=false from rfl,Nat.min_eq_left (by omega)]
 rfl
theorem Yp {t:Nat} (h0:9007199254740992<=t) (h:t<9218868437227405312):double.div t 4611686018427387904=some (t-4503599627370496):=by
 have hr:rg t=t:=Nat.mod_eq_of_lt (by omega)
 have hs:sg t=false:=by unfold sg;simp;omega
 have r2:double.read 4611686018427387904=.number false 4503599627370496 (-51):=by decide +kernel
 unfold Format.div;rw [iQ (x:=t) (by omega),r2,hr,hs]
 obtain ⟨e,m,ht,h1,h2,he⟩:=form t;have hm:mg t=m:=by unfold mg;rw [if_neg (by omega)];omega
 have m0:4503599627370496<=m:=by omega
 have hx:xp t=e:=by unfold xp;omega
 have e0:0<e:=by omega
 have lg:m.log2=52:=(Nat.log2_eq_iff (by omega)).2 ⟨by omega,by omega⟩
 unfold Datum.quotient;rw [hm,hx];simp only [show double.fractionBits=52 from rfl,lg,show Nat.log2 4503599627370496=52 by decide +kernel,Nat.shiftLeft_eq]
 rw [if_neg (by decide)]
 have q1:m*2^(52+2+52-52)/4503599627370496=m*4:=by
  rw [show (2:Nat)^(52+2+52-52)=4*4503599627370496 from rfl,<-Nat.mul_assoc,Nat.mul_div_cancel _ (by decide)]
 have q2:m*2^(52+2+52-52)%4503599627370496=0:=by
  rw [show (2:Nat)^(52+2+52-52)=4*4503599627370496 from rfl,<-Nat.mul_assoc,Nat.mul_mod_left]
 rw [q1,q2];simp only [Option.map];have hw:=Dg (false ^^ false) (2*(m*4)+(0 != 0).toNat) (-1074+(e:Int) - -51-((52+2+52-52:Nat):Int)-1) ((e-1)*4503599627370496+m) e 4 (by omega) (by omega) (by
  refine Nr.of_eq (by decide) ?_
  rw [jd (e-1) m (by omega) (.inl m0)]
  have:2^e=2^(e-1)*2:=by rw [<-Nat.pow_succ];congr 1;omega
  rw [this];simp;rw [show (2:Nat)*(m*4)=m*8 by omega,Nat.mul_assoc,Nat.mul_assoc]
  congr 1
  omega)
 show some (double.nearest _ _ _)=_;rw [hw,Nat.min_eq_left (by omega)]
 rw [show (false ^^ false)=false from rfl,Di];refine congrArg some ?_;omega
theorem Lb (b:Nat):2^(b/4503599627370496-1)*4503599627370496<=V b+4503599627370496:=by
 obtain ⟨e,m,hb,h1,h2,he⟩:=form b;have a:=jd e m (by omega) h2
 rw [<-hb] at a;rw [<-he,a];rcases h2 with q | q
 ·have:4503599627370496*2^e<=m*2^e:=Nat.mul_le_mul_right _ q
  rw [Nat.mul_comm];omega
 ·subst q
  omega
theorem Nr.up (h:Nr x y b):9007199254740992*x<=9007199254740992*(V b*y)+V b*y+4503599627370496*y:=by
 have h1:=h.hi;rw [ta] at h1;have g:=Nat.mul_le_mul_right y (Lb b);generalize 2^(b/4503599627370496-1)=k at *;rw [Nat.add_mul] at g;have e1:(V b+(V b+k))*y=2*(V b*y)+k*y:=by rw [<-Nat.add_assoc,Nat.add_mul,Nat.add_mul];omega
 have e2:k*4503599627370496*y=4503599627370496*(k*y):=by rw [Nat.mul_comm k,Nat.mul_assoc]
 rw [e1] at h1;rw [e2] at g;omega
theorem Nr.down (h:Nr x y b):9007199254740992*(V b*y)<=9007199254740992*x+V b*y+4503599627370496*y:=by
 cases b with
 | zero=>rw [oS,Nat.zero_mul];omega
 | succ b =>
  have h1:=h.lo;rw [Nat.add_sub_cancel] at h1;have st:=ta b;have g:=Nat.mul_le_mul_right y (Lb b);have lv:=Nat.mul_le_mul_right y (iP (show b<=b+1 by omega))
  generalize 2^(b/4503599627370496-1)=k at *;rw [Nat.add_mul] at g;have e2:k*4503599627370496*y=4503599627370496*(k*y):=by rw [Nat.mul_comm k,Nat.mul_assoc]
  rw [e2] at g;have e1:V (b+1)*y=V b*y+k*y:=by rw [st,Nat.add_mul]
  rw [Nat.add_mul] at h1;omega
theorem Nr.twice (h:Nr x y b):V b*y<=2*x+y:=by
 have:=h.down
 omega
theorem Ld:1809251394333065553493296640760748560207343510400633813116524750123642650624<=Un:=by
 obtain ⟨k,hk,e⟩:=kZ;rw [e];have h1:(2:Nat)^100*2^100*2^50<=2^k:=by
  rw [<-Nat.pow_add,<-Nat.pow_add];exact Nat.pow_le_pow_right (by decide) (by omega)
 have e3:(2:Nat)^100*2^100*2^50=1809251394333065553493296640760748560207343510400633813116524750123642650624:=by decide +kernel
 rw [<-e3];exact h1
theorem tE {u v z:Nat} (t:Nat) (h:9007199254740992*x<=9007199254740992*u+v+4503599627370496*z):9007199254740992*(x*t)<=9007199254740992*(u*t)+v*t+4503599627370496*(z*t):=by
 have:=Nat.mul_le_mul_right t h
 rw [Nat.add_mul,Nat.add_mul,Nat.mul_assoc,Nat.mul_assoc,Nat.mul_assoc] at this;exact this
theorem zq {u z:Nat} (t:Nat) (h:x<=2*u+z):x*t<=2*(u*t)+z*t:=by
 have:=Nat.mul_le_mul_right t h
 rw [Nat.add_mul,Nat.mul_assoc] at this;exact this
theorem Yq {d s p:Nat} (b0:0<b) (a1:a<18446744073709551616) (b1:b<18446744073709551616) (d1:d<18446744073709551616)
  (hs:Nr (a*Un) b s) (hy:Nr (d*Un) 1 y) (hp:Nr (V s*V y) Un p) (hq:a*d<=17179869184*b) :
  4*(V p*b)<=4*(a*d*Un)+Un*b/\4*(a*d*Un)<=4*(V p*b)+Un*b:=by
 have cY:=Ld;obtain ⟨U,hU⟩:∃ U,Un=U:=⟨_,rfl⟩;rw [hU] at hs hy hp cY ⊢;clear hU;obtain ⟨S,hS⟩:∃ S,V s=S:=⟨_,rfl⟩;obtain ⟨Y,hY⟩:∃ Y,V y=Y:=⟨_,rfl⟩;obtain ⟨P,hP⟩:∃ P,V p=P:=⟨_,rfl⟩;have s1:=hs.up;have s2:=hs.down;have s3:=hs.twice;have y1:=hy.up;have y2:=hy.down;have y3:=hy.twice;have p1:=hp.up;have p2:=hp.down;have p3:=hp.twice;rw [hS] at s1 s2 s3 p1 p2 p3;rw [hY] at y1 y2 y3 p1 p2 p3;rw [hP] at p1 p2 p3 ⊢;rw [Nat.mul_one] at y1 y2 y3;clear hs hy hp hS hY hP;obtain ⟨aU,e5⟩:∃ t,a*U=t:=⟨_,rfl⟩;obtain ⟨dU,e6⟩:∃ t,d*U=t:=⟨_,rfl⟩;obtain ⟨Sb,e7⟩:∃ t,S*b=t:=⟨_,rfl⟩;obtain ⟨PU,e8⟩:∃ t,P*U=t:=⟨_,rfl⟩;obtain ⟨SY,e9⟩:∃ t,S*Y=t:=⟨_,rfl⟩;rw [e5,e7] at s1 s2 s3;rw [e6] at y1 y2 y3;rw [e8,e9] at p1 p2 p3;have f1:SY*b=Sb*Y:=by rw [<-e9,<-e7,Nat.mul_right_comm]
 have r1:=tE Y s1;have r2:=tE Y s2;have r3:=zq Y s3;have r4:=tE aU y1;have r5:=tE aU y2;have r6:=zq aU y3;have r7:=tE b p1;have r8:=tE b p2;have r9:=zq b p3;have uT:=zq b y3;rw [Nat.one_mul,Nat.mul_comm Y aU] at r4 r5 r6;rw [f1] at r7 r8 r9;rw [Nat.one_mul,Nat.mul_comm Y b] at uT;obtain ⟨W,hW⟩:∃ W,U*b*U=W:=⟨_,rfl⟩;have UU:1809251394333065553493296640760748560207343510400633813116524750123642650624*U<=U*U:=Nat.mul_le_mul_right U cY;have WU:U*U<=W:=by
  rw [<-hW,Nat.mul_right_comm];exact Nat.le_mul_of_pos_right _ b0
 have k1:aU<=18446744073709551616*U:=by rw [<-e5];exact Nat.mul_le_mul_right U (by omega)
 have k2:dU*b<=340282366920938463463374607431768211456*U:=by
  have:d*b<=18446744073709551616*18446744073709551616:=Nat.mul_le_mul (by omega) (by omega)
  rw [<-e6,Nat.mul_right_comm];exact Nat.mul_le_mul_right U this
 have k3:U*b<=18446744073709551616*U:=by rw [Nat.mul_comm];exact Nat.mul_le_mul_right U (by omega)
 have k4:dU*aU<=17179869184*W:=by
  have h1:a*d*(U*U)<=17179869184*b*(U*U):=Nat.mul_le_mul_right _ hq;have e:dU*aU=a*d*(U*U):=by rw [<-e5,<-e6,Nat.mul_mul_mul_comm,Nat.mul_comm d a]
  have e':17179869184*b*(U*U)=17179869184*W:=by
   rw [<-hW,Nat.mul_assoc,Nat.mul_right_comm U b U,Nat.mul_comm (U*U) b]
  rw [e,<-e'];exact h1
 have fin:4*(PU*b)<=4*(dU*aU)+W/\4*(dU*aU)<=4*(PU*b)+W:=by omega
 have g1:PU*b=P*b*U:=by rw [<-e8,Nat.mul_right_comm]
 have g2:dU*aU=a*d*U*U:=by rw [<-e5,<-e6,Nat.mul_mul_mul_comm,Nat.mul_comm d a,<-Nat.mul_assoc]
 have U0:0<U:=by omega
 rw [g1,g2,<-hW] at fin;obtain ⟨fa,fb⟩:=fin;have e1:4*(P*b*U)=4*(P*b)*U:=(Nat.mul_assoc 4 (P*b) U).symm;have e2:4*(a*d*U*U)=4*(a*d*U)*U:=(Nat.mul_assoc 4 (a*d*U) U).symm;rw [e1,e2] at fa fb;rw [<-Nat.add_mul] at fa fb;exact ⟨Nat.le_of_mul_le_mul_right fa U0,Nat.le_of_mul_le_mul_right fb U0⟩
def iw (X:Int) (r:Nat):Int:=if X<0 then -(V r:Int) else V r
theorem Yr {X:Int} (h:Nr X.natAbs 1 r):9007199254740992*(iw X r-X)<=2*X.natAbs+1+4503599627370496/\9007199254740992*(X-iw X r)<=2*X.natAbs+1+4503599627370496:=by
 have h1:=h.up;have h2:=h.down;have h3:=h.twice;rw [Nat.mul_one,Nat.mul_one] at h1 h2;rw [Nat.mul_one] at h3;unfold iw;split<;>omega
theorem Ys {d s p:Nat} {c:Int} (b0:0<b) (a1:a<18446744073709551616) (b1:b<18446744073709551616) (d1:d<18446744073709551616)
  (hs:Nr (a*Un) b s) (hy:Nr (d*Un) 1 y) (hp:Nr (V s*V y) Un p) (hq:a*d<=17179869184*b) (c0:-17179869184<=c) (c1:c<=17179869184)
  (hr:Nr ((V p:Int)+c*Un).natAbs 1 r) :
  2*(iw ((V p:Int)+c*Un) r*b)<=2*(((a*d:Nat):Int)*Un+c*Un*b)+Un*b/\2*(((a*d:Nat):Int)*Un+c*Un*b)<=2*(iw ((V p:Int)+c*Un) r*b)+Un*b:=by
 obtain ⟨h1,h2⟩:=Yq b0 a1 b1 d1 hs hy hp hq;have cY:=Ld;obtain ⟨U,hU⟩:∃ U,Un=U:=⟨_,rfl⟩;rw [hU] at h1 h2 hr cY ⊢;clear hU hs hy hp;obtain ⟨P,hP⟩:∃ P,V p=P:=⟨_,rfl⟩;rw [hP] at h1 h2 hr ⊢;clear hP;obtain ⟨n1,n2⟩:=Yr hr;have Yt:P*b<=17179869185*U*b:=by
  have k1:a*d*U<=17179869184*b*U:=Nat.mul_le_mul_right U hq;have e1:17179869184*b*U=17179869184*(U*b):=by rw [Nat.mul_assoc,Nat.mul_comm b U]
  have e2:17179869185*U*b=17179869185*(U*b):=Nat.mul_assoc _ _ _;omega
 have Dl:P<=17179869185*U:=Nat.le_of_mul_le_mul_right Yt b0;have cU0:-(17179869184*(U:Int))<=c*U:=by
  have:=Int.mul_le_mul_of_nonneg_right c0 (show (0:Int)<=U by omega)
  omega
 have cU1:c*U<=17179869184*(U:Int):=Int.mul_le_mul_of_nonneg_right c1 (by omega)
 obtain ⟨X,hX⟩:∃ X,(P:Int)+c*U=X:=⟨_,rfl⟩;rw [hX] at n1 n2 ⊢;obtain ⟨R,hR⟩:∃ R,iw X r=R:=⟨_,rfl⟩;rw [hR] at n1 n2 ⊢;have m1:4*(R-X)<=U/\4*(X-R)<=U:=by omega
 have bb:(0:Int)<=(b:Int):=by omega
 have t1:=Int.mul_le_mul_of_nonneg_right m1.1 bb;have t2:=Int.mul_le_mul_of_nonneg_right m1.2 bb;have e3:X*b=(P:Int)*b+c*U*b:=by rw [<-hX,Int.add_mul]
 have e4:4*(R-X)*(b:Int)=4*(R*b)-4*(X*b):=by rw [Int.mul_assoc,Int.sub_mul];omega
 have e5:4*(X-R)*(b:Int)=4*(X*b)-4*(R*b):=by rw [Int.mul_assoc,Int.sub_mul];omega
 rw [e4] at t1;rw [e5] at t2;have Yu:4*((P:Int)*b)<=4*(((a*d:Nat):Int)*U)+(U:Int)*b:=by exact_mod_cast h1
 have Le:4*(((a*d:Nat):Int)*U)<=4*((P:Int)*b)+(U:Int)*b:=by exact_mod_cast h2
 omega
end Go.Proofs.YtcboobmfnmgldaaGreat
