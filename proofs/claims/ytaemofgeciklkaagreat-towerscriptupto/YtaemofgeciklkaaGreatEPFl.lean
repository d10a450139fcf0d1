import Derived.Test.YtaemofgeciklkaaGreatEA
import Derived.Laws.FloatArith
set_option linter.unusedVariables false
namespace Go.Proofs.YtaemofgeciklkaaGreat
open Ieee
def V (b:Nat):Nat:=if b<4503599627370496 then b else (4503599627370496+b%4503599627370496)*2^(b/4503599627370496-1)
theorem jR (e m:Nat) (h:m<=9007199254740992) (h':4503599627370496<=m\/e=0):V (e*4503599627370496+m)=m*2^e:=by
 unfold V;by_cases c:m<4503599627370496
 ·obtain rfl:e=0:=by omega
  rw [Ym ω];simp
 ·rw [Yl ω]
  by_cases k:m=9007199254740992
  ·have q:(e*4503599627370496+m)/4503599627370496=e+2:=(by omega);have r:(e*4503599627370496+m)%4503599627370496=0:=ω;rw [q,r,k,show e+2-1=e+1 from rfl,Nat.pow_succ];omega
  ·have q:(e*4503599627370496+m)/4503599627370496=e+1:=(by omega);have r:4503599627370496+(e*4503599627370496+m)%4503599627370496=m:=ω;rw [q,r,show e+1-1=e from rfl]
theorem form (b:Nat):∃ e m,b=e*4503599627370496+m/\m<9007199254740992/\(4503599627370496<=m\/e=0)/\e=b/4503599627370496-1:=by refine ⟨b/4503599627370496-1,b-(b/4503599627370496-1)*4503599627370496,?_,?_,?_,rfl⟩<;>omega
theorem vf (b:Nat):V (b+1)=V b+2^(b/4503599627370496-1):=by obtain ⟨e,m,hb,h1,h2,he⟩:=form b;have a:=jR e m ω h2;have c:=jR e (m+1) ω ω;rw [<-he,hb,Nat.add_assoc,a,c,qaD,Nat.one_mul]
theorem AS (b:Nat):V b<V (b+1):=by rw [vf];have:=qaM (b/4503599627370496-1);omega
variable {a b:Nat}
theorem vg (h:a<b):V a<V b:=by
 induction b with
 | zero=>omega
 | succ n ih =>
  have:=AS n
  by_cases k:a=n
  ·subst k;exact this
  ·have:=ih ω;omega
theorem jF (h:a<=b):V a<=V b:=by
 by_cases k:a=b
 ·subst k;exact Yk _
 ·exact Nat.le_of_lt (vg ω)
theorem Nw:V a<=V b↔a<=b :=
 ⟨fun h=>by
  by_cases k:a<=b
  ·exact k
  ·have:=vg (Nat.lt_of_not_le k);omega,jF⟩
theorem Fu (h:V a=V b):a=b:=by have h1:a<=b:=Nw.1 ω;have h2:b<=a:=Nw.1 ω;omega
theorem qS:V 0=0:=rfl
structure Nr (x y b:Nat):Prop where
 lo:(V (b-1)+V b)*y<=2*x
 hi:2*x<=(V b+V (b+1))*y
 loe:(V (b-1)+V b)*y=2*x->b%2=0
 hie:2*x=(V b+V (b+1))*y->b%2=0
variable {x y x' y':Nat}
theorem aad {A B:Nat} (h1:A*y<=2*x) (h2:2*x'<=B*y') (h:x*y'<=x'*y) (hB:B<=A) (hy:0<y) (iB:0<y') :
  A=B/\A*y=2*x/\2*x'=B*y':=by
 have a1:A*y*y'<=2*(x*y'):=by rw [<-Nat.mul_assoc];exact qam _ h1
 have a2:2*(x'*y)<=B*y'*y:=by rw [<-Nat.mul_assoc];exact qam _ h2
 have a3:B*(y'*y)<=A*(y'*y):=qam _ hB;rw [qaj,qar y y'] at a1;rw [qaj] at a2;have e:A*(y'*y)=B*(y'*y):=ω;have hAB:A=B:=qbm (Nat.mul_pos iB hy) e;refine ⟨hAB,?_,?_⟩
 ·have:A*y*y'=2*x*y':=by rw [qaj,qar y y',qaj 2];omega
  exact qbm iB this
 ·have:2*x'*y=B*y'*y:=by rw [qaj,qaj];omega
  exact qbm hy this
theorem Nr.mono {b':Nat} (h:Nr x y b) (h':Nr x' y' b') (hy:0<y) (iB:0<y') (hx:x*y'<=x'*y):b<=b':=by
 rcases qaB b' b with k | k
 ·exfalso
  have k1:V b'<=V (b-1):=jF ω;have k2:V (b'+1)<=V b:=jF ω;obtain ⟨e1,e2,e3⟩:=aad h.lo h'.hi hx ω hy iB;have p1:=h.loe e2;have p2:=h'.hie e3;have:b'=b-1:=Fu ω;omega
 ·exact k
theorem Nr.uniq {b':Nat} (h:Nr x y b) (h':Nr x y b') (hy:0<y):b=b' :=
 Nat.le_antisymm (h.mono h' hy hy (Yk _)) (h'.mono h hy hy (Yk _))
theorem Nr.scale (h:Nr x y b) (hy:0<y) (iB:0<y') (e:x*y'=x'*y):Nr x' y' b:=by
 have s1:∀ A,A*y'*y=A*y*y':=fun A=>by rw [qaj,qaj,qar y]
 have s2:2*x'*y=2*x*y':=by rw [qaj,qaj,e]
 refine ⟨?_,?_,?_,?_⟩
 ·refine Nat.le_of_mul_le_mul_right ?_ hy
  rw [s1,s2];exact qam _ h.lo
 ·refine Nat.le_of_mul_le_mul_right ?_ hy
  rw [s1,s2];exact qam _ h.hi
 ·intro k
  refine h.loe (qbm iB ?_);rw [<-s1,<-s2,k]
 ·intro k
  refine h.hie (qbm iB ?_);rw [<-s1,<-s2,k]
theorem Nr.exact (b y:Nat) (hy:0<y):Nr (V b*y) y b:=by
 have h1:=jF (show b-1<=b by omega)
 have h2:=AS b;have e:2*(V b*y)=(V b+V b)*y:=by rw [qaD];omega
 refine ⟨?_,?_,?_,?_⟩
 ·rw [e];exact qam _ ω
 ·rw [e];exact qam _ ω
 ·rw [e];intro k
  have:=qbm hy k
  have:b-1=b:=Fu ω
  omega
 ·rw [e];intro k
  have:=qbm hy k
  omega
theorem Nr.of_eq (hy:0<y) (e:x=V b*y):Nr x y b:=e▸Nr.exact b y hy
def gP (n g:Nat):Nat:=n/g+(decide (g<2*(n%g))||(g == 2*(n%g)&&n/g%2 == 1)).toNat
theorem Nx (n g:Nat) (hg:0<g):(2*gP n g)*g<=2*n+g/\2*n<=(2*gP n g+1)*g/\(2*gP n g*g=2*n+g->gP n g%2=0)/\(2*n=(2*gP n g+1)*g->gP n g%2=0)/\n/g<=gP n g/\gP n g<=n/g+1/\(gP n g=n/g+1->n/g%2=1\/g<2*(n%g)):=by
 have hd:=Nat.div_add_mod n g;have hm:=Nat.mod_lt n hg;unfold gP;generalize n/g=q at *;generalize n%g=r at *;have e1:(2*(q+1))*g=2*(g*q)+2*g:=by rw [Nat.mul_add,qaD,qar g q,<-Nat.mul_assoc]
 have e2:(2*(q+1)+1)*g=2*(g*q)+3*g:=by rw [qaD,e1];omega
 have e3:(2*q)*g=2*(g*q):=by rw [qar g q,<-Nat.mul_assoc]
 have e4:(2*q+1)*g=2*(g*q)+g:=by rw [qaD,e3];omega
 by_cases h:(decide (g<2*r)||(g == 2*r&&q%2 == 1))=true
 ·rw [h]
  simp only [Bool.toNat_true];have h':g<2*r\/g=2*r/\q%2=1:=by simpa using h
  rw [e1,e2];refine ⟨?_,?_,?_,?_,?_,?_,?_⟩<;>omega
 ·rw [Bool.eq_false_iff.2 h]
  simp only [Bool.toNat_false,Nat.add_zero];have h':¬ (g<2*r\/g=2*r/\q%2=1):=by simpa using h
  rw [e3,e4];refine ⟨?_,?_,?_,?_,?_,?_,?_⟩<;>omega
theorem Nr.of_rne (n g e:Nat) (hg:0<g) (hq:n/g<9007199254740992) (h2:4503599627370496<=n/g\/e=0) :
  Nr (n*2^e) g (e*4503599627370496+gP n g):=by
 obtain ⟨r1,r2,r3,r4,r5,r6,r7⟩:=Nx n g hg;generalize hm:gP n g=m at *;have hp:=qaM e;have hV:V (e*4503599627370496+m)=m*2^e:=jR e m ω ω;generalize hb:e*4503599627370496+m=b at *;have vh:V (b+1)>=(m+1)*2^e:=by rw [vf,hV,qaD,Nat.one_mul];have:2^e<=2^(b/4503599627370496-1):=qbe γ ω;omega
 have sx:2*(n*2^e)=2*n*2^e:=by rw [qaj]
 have up1:(2*m+1)*g*2^e<=(V b+V (b+1))*g:=by rw [qaj,qar g,<-Nat.mul_assoc];refine qam _ ?_;rw [hV];simp only [qaD,Nat.one_mul] at vh ⊢;rw [qaj];omega
 have u2:2*n*2^e<=(2*m+1)*g*2^e:=qam _ r2;have par:b%2=m%2:=ω;have hie:2*(n*2^e)=(V b+V (b+1))*g->b%2=0:=by intro k;rw [sx] at k;have:2*n*2^e=(2*m+1)*g*2^e:=ω;have:=r4 (qbm hp this);omega
 by_cases AU:m=4503599627370496/\0<e
 ·obtain ⟨m0,e0⟩:=AU
  have q0:n/g=m:=ω;have n0:g*m<=n:=by rw [<-q0];exact Nat.mul_div_le n g
  have n1:V b*g<=n*2^e:=by rw [hV,qaj,qar _ g,<-Nat.mul_assoc,qar m];exact qam _ n0
  have n2:V (b-1)<V b:=vg ω;have n3:(V (b-1)+V b)*g<(V b+V b)*g:=qbq ω hg;have n4:(V b+V b)*g=V b*g+V b*g:=by rw [qaD]
  exact ⟨ω,ω,ω,hie⟩
 ·by_cases pt:b=0
  ·have:(V (b-1)+V b)*g=0:=by rw [pt];simp [qS]
   exact ⟨ω,ω,ω,hie⟩
  ·have hm0:0<m:=(by omega);have gh:V (b-1)+2^e<=V b:=by
    have s:=vf (b-1);rw [show b-1+1=b from by omega] at s
    rw [s];have:2^e<=2^((b-1)/4503599627370496-1):=qbe γ ω;omega
   have lo1:(V (b-1)+V b)*g+g*2^e<=2*m*g*2^e:=by
    have z:(V (b-1)+V b+2^e)*g<=(2*m*2^e)*g:=qam _ (by rw [hV] at gh ⊢;rw [qaj];omega)
    rw [qaD,qar (2^e) g] at z;rw [qaj (2*m),qar g,<-Nat.mul_assoc];rw [qar (2^e) g];exact z
   have lo2:2*m*g*2^e<=2*n*2^e+g*2^e:=(by rw [<-Nat.add_mul];exact qam _ r1);have loe:(V (b-1)+V b)*g=2*(n*2^e)->b%2=0:=by
    intro k;rw [sx] at k;have:2*m*g*2^e=(2*n+g)*2^e:=by rw [qaD];omega
    have:=r3 (qbm hp this)
    omega
   exact ⟨ω,ω,loe,hie⟩
def sg (wd:Nat):Bool:=wd/9223372036854775808%2 == 1
def rg (wd:Nat):Nat:=wd%9223372036854775808
def mg (r:Nat):Nat:=if r<4503599627370496 then r else 4503599627370496+r%4503599627370496
def xp (r:Nat):Nat:=r/4503599627370496-1
theorem px (r:Nat):V r=mg r*2^xp r:=by
 unfold V mg xp;split
 ·rename_i h;rw [show r/4503599627370496-1=0 by omega];simp
 ·rfl
theorem Ny (r:Nat):mg r<9007199254740992:=by unfold mg;split<;>omega
theorem least:double.leastPlace=-1074:=γ
theorem bin:double.binade=4503599627370496:=γ
theorem xK:double.signWeight=9223372036854775808:=γ
theorem inf:double.infRung=9218868437227405312:=γ
theorem jG (h:rg x<9218868437227405312):double.read x=.number (sg x) (mg (rg x)) (-1074+(xp (rg x):Int)):=by
 unfold Format.read;rw [least,bin,xK,inf];simp only [<-show rg x=x%9223372036854775808 from rfl,<-show sg x=(x/9223372036854775808%2 == 1) from rfl];unfold mg xp;by_cases c:rg x<4503599627370496
 ·rw [Ym c,Ym c,show rg x/4503599627370496-1=0 by omega];rfl
 ·rw [Yl c,Ym h,Yl c]
theorem xL (h:rg x=9218868437227405312):double.read x=.infinity (sg x):=by unfold Format.read;rw [least,bin,xK,inf];simp only [<-show rg x=x%9223372036854775808 from rfl,<-show sg x=(x/9223372036854775808%2 == 1) from rfl];rw [Yl ω,Yl ω,Ym h]
theorem Fv (h:9218868437227405312<rg x):double.read x=.nan (sg x) (rg x-9218868437227405312):=by unfold Format.read;rw [least,bin,xK,inf];simp only [<-show rg x=x%9223372036854775808 from rfl,<-show sg x=(x/9223372036854775808%2 == 1) from rfl];rw [Yl ω,Yl ω,Yl ω]
def SV (x:Nat):Int:=if sg x then -(V (rg x):Int) else V (rg x)
theorem AV (s:Bool) (m u k:Nat):signed s m (u+k)=signed s m u*2^k:=by
 unfold signed;have e:m <<< (u+k)=m <<< u*2^k:=by rw [Nat.shiftLeft_eq,Nat.shiftLeft_eq,Nat.pow_add,qaj]
 cases s<;>simp [e,Int.neg_mul]
theorem AW (x:Nat):SV x=signed (sg x) (mg (rg x)) (xp (rg x)):=by unfold SV signed;rw [px,Nat.shiftLeft_eq]
theorem aae (a b k:Int) (h:0<k):compare (a*k) (b*k)=compare a b:=by show compareOfLessAndEq _ _=compareOfLessAndEq _ _;unfold compareOfLessAndEq;have e1:(a*k<b*k)↔a<b:=Int.mul_lt_mul_right h;have e2:(a*k=b*k)↔a=b:=Int.mul_eq_mul_right_iff ω;simp only [e1,e2]
theorem two_pow_pos (k:Nat):(0:Int)<2^k:=Int.pow_pos γ
theorem Fw (hx:rg x<9218868437227405312) (hy:rg y<9218868437227405312):double.order x y=some (compare (SV x) (SV y)):=by
 unfold Format.order;rw [jG hx,jG hy];unfold Datum.order;simp only;have e:min (-1074+(xp (rg x):Int)) (-1074+(xp (rg y):Int))=-1074+((min (xp (rg x)) (xp (rg y)):Nat):Int):=ω;rw [e];have e1:(-1074+(xp (rg x):Int)-(-1074+((min (xp (rg x)) (xp (rg y)):Nat):Int))).toNat=xp (rg x)-min (xp (rg x)) (xp (rg y)):=ω;have e2:(-1074+(xp (rg y):Int)-(-1074+((min (xp (rg x)) (xp (rg y)):Nat):Int))).toNat=xp (rg y)-min (xp (rg x)) (xp (rg y)):=ω;rw [e1,e2];have f1:SV x=signed (sg x) (mg (rg x)) (xp (rg x)-min (xp (rg x)) (xp (rg y)))*2^(min (xp (rg x)) (xp (rg y))):=by rw [<-AV,AW];congr 1;omega
 have f2:SV y=signed (sg y) (mg (rg y)) (xp (rg y)-min (xp (rg x)) (xp (rg y)))*2^(min (xp (rg x)) (xp (rg y))):=by rw [<-AV,AW];congr 1;omega
 rw [f1,f2,aae _ _ _ (two_pow_pos _)]
theorem aaf (a b:Int):(some (compare a b) == some Ordering.lt)=decide (a<b):=by
 rw [show compare a b=compareOfLessAndEq a b from rfl];unfold compareOfLessAndEq;by_cases h:a<b
 ·simp [h]
 ·by_cases k:a=b<;>simp [h,k]
theorem aag (a b:Int):(some (compare a b) == some Ordering.eq)=decide (a=b):=by
 rw [show compare a b=compareOfLessAndEq a b from rfl];unfold compareOfLessAndEq;by_cases h:a<b
 ·have:¬ a=b:=by omega
  simp [h,this]
 ·by_cases k:a=b<;>simp [h,k]
theorem aah (a b:Int):(some (compare a b) == some Ordering.gt)=decide (b<a):=by
 rw [show compare a b=compareOfLessAndEq a b from rfl];unfold compareOfLessAndEq;by_cases h:a<b
 ·have:¬ b<a:=by omega
  simp [h,this]
 ·by_cases k:a=b
  ·simp [k]
  ·have:b<a:=by omega
   simp [h,k,this]
theorem Nz (hx:rg x<9218868437227405312) (hy:rg y<9218868437227405312):(double.order x y == some .lt)=decide (SV x<SV y):=by rw [Fw hx hy,aaf]
theorem AY (hx:rg x<9218868437227405312) (hy:rg y<9218868437227405312):(double.order x y == some .gt)=decide (SV y<SV x):=by rw [Fw hx hy,aah]
theorem NG (hx:rg x<9218868437227405312) (hy:rg y<9218868437227405312):(double.order x y == some .eq)=decide (SV x=SV y):=by rw [Fw hx hy,aag]
theorem aai (hx:rg x<9218868437227405312) (hy:rg y<9218868437227405312):(double.order x y != some .eq)=!decide (SV x=SV y):=by rw [bne,NG hx hy]
theorem Fx (hx:rg x<9218868437227405312) (hy:rg y<9218868437227405312):(double.order x y == some .gt||double.order x y == some .eq)=decide (SV y<=SV x):=by
 rw [AY hx hy,NG hx hy];by_cases h:SV y<SV x
 ·have:SV y<=SV x:=by omega
  simp [h,this]
 ·by_cases k:SV x=SV y
  ·simp [k]
  ·have:¬ SV y<=SV x:=by omega
   simp [h,k,this]
theorem aaj (neg:Bool) (n d:Nat):Toward.even.cut neg n d=gP n (2^d):=by
 unfold Toward.cut gP;simp only [Nat.one_shiftLeft];have hl:n<2^(n.log2+1):=Nat.lt_log2_self;by_cases h:d<=n.log2+2
 ·rw [qaU h]
 ·rw [Nat.min_eq_right ω]
  have p1:2^(n.log2+2)=2*2^(n.log2+1):=by rw [Nat.pow_succ,qar]
  have p2:2^(n.log2+2)<=2^d:=qbe γ ω;have q1:n/2^(n.log2+2)=0:=Nat.div_eq_of_lt ω;have q2:n%2^(n.log2+2)=n:=Nat.mod_eq_of_lt ω;have q3:n/2^d=0:=Nat.div_eq_of_lt ω;have q4:n%2^d=n:=Nat.mod_eq_of_lt ω;rw [q1,q2,q3,q4];have d1:decide (2^(n.log2+2)<2*n)=false:=qan ω;have d2:decide (2^d<2*n)=false:=qan ω;rw [d1,d2];simp
theorem Fy (neg:Bool) (dy:Nat) (place:Int) (b a c:Nat) (h0:0<dy) (hp:place+1074=(a:Int)-c) (h:Nr (dy*2^a) (2^c) b) :
  double.nearest neg dy place=double.word neg (min b 9218868437227405312):=by
 have l1:2^dy.log2<=dy:=Nat.log2_self_le ω;have l2:dy<2^(dy.log2+1):=Nat.lt_log2_self;unfold Format.nearest;rw [Yl ω,least,bin,inf];simp only [aaj,Nat.shiftLeft_eq,show double.fractionBits=52 from rfl];generalize hL:dy.log2=L at *;generalize hl:max (place+(L:Int)-(52:Nat)) (-1074)=last;generalize hd:(last-place).toNat=d;generalize hu:(place-last).toNat=u;generalize he:(last - -1074).toNat=e;have pd:=qaM d;have pu:=qaM u;have pc:=qaM c;have n1:dy*2^u/2^d<9007199254740992:=by
  refine Nat.div_lt_of_lt_mul ?_;have z1:dy*2^u<2^(L+1)*2^u:=qbq l2 pu;have z2:2^(L+1)*2^u<=2^d*9007199254740992:=by rw [<-Nat.pow_add,show (9007199254740992:Nat)=2^53 from rfl,<-Nat.pow_add];exact qbe γ ω
  omega
 have n2:4503599627370496<=dy*2^u/2^d\/e=0:=by
  by_cases k:e=0
  ·exact .inr k
  ·refine .inl ((Nat.le_div_iff_mul_le pd).2 ?_)
   have z1:2^L*2^u<=dy*2^u:=qam _ l1;have z2:4503599627370496*2^d<=2^L*2^u:=(by rw [<-Nat.pow_add,show (4503599627370496:Nat)=2^52 from rfl,<-Nat.pow_add];exact qbe γ ω);omega
 have key:=Nr.of_rne (dy*2^u) (2^d) e pd n1 n2;have aak:Nr (dy*2^a) (2^c) (e*4503599627370496+gP (dy*2^u) (2^d)):=by refine key.scale pd pc ?_;rw [qaj,qaj,qaj,<-Nat.pow_add,<-Nat.pow_add,<-Nat.pow_add];congr 2;omega
 rw [aak.uniq h pc]
theorem Nr.zero (y:Nat) (hy:0<y):Nr 0 y 0:=Nr.of_eq hy (by rw [qS];omega)
theorem Fz (neg:Bool) (dy:Nat) (place:Int) (a c:Nat) (hp:place+1074=(a:Int)-c) :
  ∃ b,Nr (dy*2^a) (2^c) b/\double.nearest neg dy place=double.word neg (min b 9218868437227405312):=by
 have pc:=qaM c;by_cases h0:dy=0
 ·refine ⟨0,by rw [h0,qaR];exact Nr.zero _ pc,?_⟩
  unfold Format.nearest;rw [Ym h0];rfl
 ·have l1:2^dy.log2<=dy:=Nat.log2_self_le ω
  have l2:dy<2^(dy.log2+1):=Nat.lt_log2_self
  suffices ∃ b,Nr (dy*2^a) (2^c) b by obtain ⟨b,hb⟩:=this;exact ⟨b,hb,Fy neg dy place b a c ω hp hb⟩
  generalize hL:dy.log2=L at *;have:=qaM a;obtain ⟨e,u,d,q1,q2,q3⟩:∃ e u d:Nat,L+1+u<=53+d/\(52+d<=L+u\/e=0)/\u+e+c=a+d:=by
   by_cases k:a+L<=52+c
   ·exact ⟨0,a,c,ω,.inr rfl,ω⟩
   ·by_cases k2:L<=52
    ·exact ⟨a-c-(52-L),52-L,0,ω,ω,ω⟩
    ·exact ⟨a+(L-52)-c,0,L-52,ω,ω,ω⟩
  have pd:=qaM d;have pu:=qaM u;have n1:dy*2^u/2^d<9007199254740992:=by refine Nat.div_lt_of_lt_mul ?_;have z1:dy*2^u<2^(L+1)*2^u:=qbq l2 pu;have z2:2^(L+1)*2^u<=2^d*9007199254740992:=(by rw [<-Nat.pow_add,show (9007199254740992:Nat)=2^53 from rfl,<-Nat.pow_add];exact qbe γ ω);omega
  have n2:4503599627370496<=dy*2^u/2^d\/e=0:=by
   rcases q2 with q2 | q2
   ·refine .inl ((Nat.le_div_iff_mul_le pd).2 ?_)
    have z1:2^L*2^u<=dy*2^u:=qam _ l1;have z2:4503599627370496*2^d<=2^L*2^u:=(by rw [<-Nat.pow_add,show (4503599627370496:Nat)=2^52 from rfl,<-Nat.pow_add];exact qbe γ ω);omega
   ·exact .inr q2
  refine ⟨_,(Nr.of_rne (dy*2^u) (2^d) e pd n1 n2).scale pd pc ?_⟩;rw [qaj,qaj,qaj,<-Nat.pow_add,<-Nat.pow_add,<-Nat.pow_add];congr 2;omega
theorem xM (neg:Bool) (b:Nat) (h:b<9223372036854775808):rg (double.word neg b)=b:=by unfold rg Format.word;rw [xK];split<;>omega
theorem NJ (neg:Bool) (b:Nat) (h:b<9223372036854775808):sg (double.word neg b)=neg:=by
 unfold sg Format.word;rw [xK];cases neg
 ·simp;omega
 ·simp;omega
theorem FH (b:Nat):double.word false b=b:=rfl
theorem aal (t:Int) (k:Nat):t.natAbs*2^k=(t*2^k).natAbs:=by rw [Int.natAbs_mul,Int.natAbs_pow];rfl
theorem aam (s t:Bool) (m n i j:Nat) :
  ∃ b,Nr (signed s m i+signed t n j).natAbs 1 b/\((Datum.number s m (-1074+(i:Int))).sum (.number t n (-1074+(j:Int)))).map double.write =
   some (double.word (if signed s m i+signed t n j=0 then s&&t else signed s m i+signed t n j<0) (min b 9218868437227405312)):=by
 have e:min (-1074+(i:Int)) (-1074+(j:Int))=-1074+((min i j:Nat):Int):=ω;have e1:(-1074+(i:Int)-(-1074+((min i j:Nat):Int))).toNat=i-min i j:=ω;have e2:(-1074+(j:Int)-(-1074+((min i j:Nat):Int))).toNat=j-min i j:=ω;unfold Datum.sum;simp only [e,e1,e2,Option.map];have f1:signed s m i=signed s m (i-min i j)*2^(min i j):=by rw [<-AV];congr 1;omega
 have f2:signed t n j=signed t n (j-min i j)*2^(min i j):=by rw [<-AV];congr 1;omega
 rw [f1,f2,<-Int.add_mul,<-aal];generalize signed s m (i-min i j)+signed t n (j-min i j)=tot;generalize min i j=k;have hp:=two_pow_pos k;have z1:(tot*2^k=0)↔tot=0:=⟨fun h=>by rcases Int.mul_eq_zero.1 h with h | h<;>omega,fun h=>by rw [h];simp⟩
 have z2:(tot*2^k<0)↔tot<0:=by
  have:=Int.mul_lt_mul_right (b:=tot) (c:=0) hp
  rw [Int.zero_mul] at this;exact this
 obtain ⟨b,hb,hw⟩:=Fz (if tot=0 then s&&t else decide (tot<0)) tot.natAbs (-1074+(k:Int)) k 0 ω
 refine ⟨b,by simpa using hb,?_⟩
 show some (double.nearest _ _ _)=_;rw [hw];congr 2;by_cases c:tot=0
 ·rw [Ym c,Ym (z1.2 c)]
 ·rw [Yl c,Yl (fun h=>c (z1.1 h))]
  simp only [z2]
theorem aan (hx:rg x<9218868437227405312) (hy:rg y<9218868437227405312) :
  ∃ b,Nr (SV x+SV y).natAbs 1 b/\double.add x y=some (double.word (if SV x+SV y=0 then sg x&&sg y else SV x+SV y<0) (min b 9218868437227405312)):=by
 unfold Format.add;rw [jG hx,jG hy,AW,AW];exact aam _ _ _ _ _ _
def NK (k:Nat):Nat:=2^k
def Un:Nat:=NK 1074
theorem vm (k:Nat) (h:k=1074):2^k=Un:=congrArg NK h
theorem mV:∃ k,k=1074/\Un=2^k:=⟨1074,rfl,(vm 1074 rfl).symm⟩
theorem kU:0<Un:=by obtain ⟨k,_,e⟩:=mV;rw [e];exact qaM k
theorem vp (k:Nat):2^k*Un=2^(k+1074):=by obtain ⟨j,h,e⟩:=mV;rw [e,<-h,Nat.pow_add]
theorem NM (hx:rg x<9218868437227405312) (hy:rg y<9218868437227405312) :
  ∃ b,Nr (V (rg x)*V (rg y)) (Un) b/\double.mul x y=some (double.word (sg x ^^ sg y) (min b 9218868437227405312)):=by
 unfold Format.mul;rw [jG hx,jG hy];obtain ⟨k,hk,hU⟩:=mV;obtain ⟨b,hb,hw⟩:=Fz (sg x ^^ sg y) (mg (rg x)*mg (rg y)) (-1074+(xp (rg x):Int)+(-1074+(xp (rg y):Int))) (xp (rg x)+xp (rg y)) k ω;refine ⟨b,?_,?_⟩
 ·rw [px,px (rg y)]
  have:mg (rg x)*2^xp (rg x)*(mg (rg y)*2^xp (rg y))=mg (rg x)*mg (rg y)*2^(xp (rg x)+xp (rg y)):=by rw [Nat.pow_add,Nat.mul_mul_mul_comm]
  rw [this,hU];exact hb
 ·show some (double.nearest _ _ _)=_
  rw [hw]
theorem aao (neg:Bool) (n d:Nat):Toward.zero.cut neg n d=n/2^d:=by
 unfold Toward.cut;simp only [Nat.one_shiftLeft,Bool.toNat_false,Nat.add_zero];have hl:n<2^(n.log2+1):=Nat.lt_log2_self;by_cases h:d<=n.log2+2
 ·rw [qaU h]
 ·rw [Nat.min_eq_right ω]
  have p1:2^(n.log2+2)=2*2^(n.log2+1):=by rw [Nat.pow_succ,qar]
  have p2:2^(n.log2+2)<=2^d:=qbe γ ω;rw [Nat.div_eq_of_lt ω,Nat.div_eq_of_lt ω]
theorem NU (m k:Nat):m*2^((-1074+(k:Int)).toNat)/2^((-(-1074+(k:Int))).toNat)=m*2^k/Un:=by
 by_cases h:1074<=k
 ·rw [show (-1074+(k:Int)).toNat=k-1074 by omega,show (-(-1074+(k:Int))).toNat=0 by omega,Nat.pow_zero,Nat.div_one]
  refine (Nat.div_eq_of_eq_mul_left kU ?_).symm;rw [qaj,vp (k-1074)];congr 2;omega
 ·rw [show (-1074+(k:Int)).toNat=0 by omega,show (-(-1074+(k:Int))).toNat=1074-k by omega,Nat.pow_zero,qaE]
  have:Un=2^(1074-k)*2^k:=by rw [<-Nat.pow_add,vm _ (show 1074-k+k=1074 by omega)]
  rw [this,Nat.mul_div_mul_right _ _ (qaM _)]
theorem toInt_fin (hx:rg x<9218868437227405312):(double.read x).toInt .zero=some (if sg x then -((V (rg x)/Un:Nat):Int) else (V (rg x)/Un:Nat)):=by rw [jG hx];unfold Datum.toInt Datum.integral;simp only [aao,Nat.shiftLeft_eq];rw [NU,<-px];unfold signed;simp only [Nat.shiftLeft_zero]
theorem aap (neg:Bool) (n d:Nat):Toward.down.cut neg n d=n/2^d+(neg&&n%2^d != 0).toNat:=by
 unfold Toward.cut;simp only [Nat.one_shiftLeft];have hl:n<2^(n.log2+1):=Nat.lt_log2_self;by_cases h:d<=n.log2+2
 ·rw [qaU h]
 ·rw [Nat.min_eq_right ω]
  have p1:2^(n.log2+2)=2*2^(n.log2+1):=by rw [Nat.pow_succ,qar]
  have p2:2^(n.log2+2)<=2^d:=qbe γ ω;have q1:n/2^(n.log2+2)=0:=Nat.div_eq_of_lt ω;have q2:n%2^(n.log2+2)=n:=Nat.mod_eq_of_lt ω;have q3:n/2^d=0:=Nat.div_eq_of_lt ω;have q4:n%2^d=n:=Nat.mod_eq_of_lt ω;rw [q1,q2,q3,q4]
theorem aaq (m k:Nat):(m*2^((-1074+(k:Int)).toNat)%2^((-(-1074+(k:Int))).toNat) != 0)=(m*2^k%Un != 0):=by
 by_cases h:1074<=k
 ·rw [show (-(-1074+(k:Int))).toNat=0 by omega,Nat.pow_zero,Nat.mod_one]
  have:m*2^k=m*2^(k-1074)*Un:=by rw [qaj,vp (k-1074)];congr 2;omega
  rw [this,Nat.mul_mod_left]
 ·rw [show (-1074+(k:Int)).toNat=0 by omega,show (-(-1074+(k:Int))).toNat=1074-k by omega,Nat.pow_zero,qaE]
  have hp:=qaM k;have:Un=2^(1074-k)*2^k:=by rw [<-Nat.pow_add,vm _ (show 1074-k+k=1074 by omega)]
  rw [this,Nat.mul_mod_mul_right];by_cases z:m%2^(1074-k)=0
  ·rw [z,qaR]
  ·have z2:¬ m%2^(1074-k)*2^k=0:=Nat.ne_of_gt (Nat.mul_pos (Nat.pos_of_ne_zero z) hp)
   rw [bne,bne,beq_false_of_ne z,beq_false_of_ne z2]
theorem FJ (k:Nat) (h:k<=9007199254740992):∃ b,b<9218868437227405312/\V b=k*Un:=by
 by_cases h0:k=0
 ·exact ⟨0,γ,by rw [h0,qS,qaR]⟩
 ·have l1:2^k.log2<=k:=Nat.log2_self_le h0
  have l2:k<2^(k.log2+1):=Nat.lt_log2_self;by_cases h1:k=9007199254740992
  ·refine ⟨1074*4503599627370496+9007199254740992,γ,?_⟩
   rw [jR 1074 9007199254740992 γ (.inl γ),h1];obtain ⟨j,hj,e⟩:=mV;rw [e,hj]
  ·have hL:k.log2<=52:=by
    rcases qaB k.log2 53 with z | z
    ·omega
    ·have:2^53<=2^k.log2:=qbe γ z
     omega
   generalize k.log2=L at *;have e1:4503599627370496<=k*2^(52-L):=by
    have:2^L*2^(52-L)<=k*2^(52-L):=qam _ l1
    rw [<-Nat.pow_add,show L+(52-L)=52 by omega] at this
    exact this
   have e2:k*2^(52-L)<9007199254740992:=by
    have:k*2^(52-L)<2^(L+1)*2^(52-L):=qbq l2 (qaM _)
    rw [<-Nat.pow_add,show L+1+(52-L)=53 by omega] at this
    exact this
   refine ⟨(1074-(52-L))*4503599627370496+k*2^(52-L),ω,?_⟩;rw [jR _ _ ω (.inl e1),qaj,<-Nat.pow_add,vm _ ω]
variable {r:Nat}
theorem aar (h:r<9218868437227405312):∃ b,b<9218868437227405312/\V b=V r/Un*Un:=by
 by_cases c:1074<=xp r
 ·refine ⟨r,h,?_⟩
  have e:V r=mg r*2^(xp r-1074)*Un:=by rw [px,qaj,vp];congr 2;omega
  rw [e,Nat.mul_div_cancel _ kU]
 ·refine FJ _ ?_
  have e:Un=2^(1074-xp r)*2^xp r:=by rw [<-Nat.pow_add,vm _ ω]
  rw [px,e,Nat.mul_div_mul_right _ _ (qaM _)];have:=Ny r;have:=Nat.div_le_self (mg r) (2^(1074-xp r));omega
theorem aas (h:r<9218868437227405312):∃ b,b<9218868437227405312/\V b=(V r/Un+(V r%Un != 0).toNat)*Un:=by
 by_cases c:1074<=xp r
 ·refine ⟨r,h,?_⟩
  have e:V r=mg r*2^(xp r-1074)*Un:=by rw [px,qaj,vp];congr 2;omega
  have e2:V r%Un=0:=by rw [e,Nat.mul_mod_left]
  rw [e2,e,Nat.mul_div_cancel _ kU];simp
 ·refine FJ _ ?_
  have e:Un=2^(1074-xp r)*2^xp r:=by rw [<-Nat.pow_add,vm _ ω]
  have q:V r/Un=mg r/2^(1074-xp r):=by rw [px,e,Nat.mul_div_mul_right _ _ (qaM _)]
  have:=Ny r
  have:=Nat.div_le_self (mg r) (2^(1074-xp r))
  have:=Bool.toNat_le (V r%Un != 0)
  omega
theorem FQ (neg:Bool) (k b:Nat) (hb:b<9218868437227405312) (hV:V b=k*Un):double.nearest neg k 0=double.word neg b:=by
 by_cases h0:k=0
 ·have:b=0:=Fu (by rw [hV,h0,qaR,qS])
  unfold Format.nearest;rw [Ym h0,this]
 ·obtain ⟨j,hj,e⟩:=mV
  rw [Fy neg k 0 b j 0 ω ω (Nr.of_eq γ (by rw [hV,e,Nat.pow_zero,qaE])),qaU ω]
theorem NV (n:Int) (b:Nat) (hb:b<9218868437227405312) (hV:V b=n.natAbs*Un):floatOfInt .f64 n=double.word (n<0) b:=by show double.nearest (decide (n<0)) n.natAbs 0=_;exact FQ _ _ _ hb hV
theorem NY (n:Int):∃ b,Nr (n.natAbs*Un) 1 b/\floatOfInt .f64 n=double.word (n<0) (min b 9218868437227405312):=by show ∃ b,_/\double.nearest (decide (n<0)) n.natAbs 0=_;obtain ⟨j,hj,e⟩:=mV;obtain ⟨b,h1,h2⟩:=Fz (decide (n<0)) n.natAbs 0 j 0 ω;exact ⟨b,by rw [e];exact h1,h2⟩
theorem NZ (neg:Bool) (b:Nat) (h:b<9223372036854775808):SV (double.word neg b)=if neg then -(V b:Int) else V b:=by unfold SV;rw [NJ _ _ h,xM _ _ h]
def dz (x:Nat):Int:=SV x/(Un:Int)
def flb (x:Nat):Nat:=double.write ((double.read x).integral .down)
theorem AZ (x:Nat):dz x=if sg x then -((V (rg x)/Un+(V (rg x)%Un != 0).toNat:Nat):Int) else ((V (rg x)/Un:Nat):Int):=by
 have hU:=kU;unfold dz SV;cases sg x
 ·simp
 ·simp only [if_true]
  have hd:=Nat.div_add_mod (V (rg x)) Un;have hm:=Nat.mod_lt (V (rg x)) hU;generalize V (rg x)/Un=q at *;generalize V (rg x)%Un=r at *;rw [<-hd];by_cases z:r=0
  ·subst z
   rw [show (-((Un*q+0:Nat):Int))=(Un:Int)*(-(q:Int)) by rw [Nat.add_zero,Int.natCast_mul,Int.mul_neg],Int.mul_ediv_cancel_left _ ω]
   simp
  ·have b:(r != 0)=true:=(by simp [z]);rw [b];have e:(-((Un*q+r:Nat):Int))=((Un-r:Nat):Int)+(Un:Int)*(-((q:Int)+1)):=(by rw [Int.mul_neg,Int.mul_add,Int.natCast_add,Int.natCast_mul];omega);rw [e,Int.add_mul_ediv_left _ _ ω,qbl ω ω];simp
theorem aat (hx:rg x<9218868437227405312):∃ b,b<9218868437227405312/\flb x=double.word (sg x) b/\V b=(dz x).natAbs*Un:=by
 unfold flb;rw [jG hx,AZ];unfold Datum.integral;simp only [aap,Nat.shiftLeft_eq,Format.write];rw [NU,aaq,<-px];cases sg x
 ·obtain ⟨b,hb,hV⟩:=aar hx
  refine ⟨b,hb,?_,?_⟩
  ·simp only [Bool.false_and,Bool.toNat_false,Nat.add_zero]
   exact FQ _ _ _ hb hV
  ·rw [Yl γ,Int.natAbs_natCast];exact hV
 ·obtain ⟨b,hb,hV⟩:=aas hx
  refine ⟨b,hb,?_,?_⟩
  ·simp only [Bool.true_and]
   exact FQ _ _ _ hb hV
  ·rw [Ym rfl,Int.natAbs_neg,Int.natAbs_natCast];exact hV
theorem aau (neg:Bool) (b k:Nat) (hb:b<9218868437227405312) (hV:V b=k*Un):(double.read (double.word neg b)).toInt .zero=some (if neg then -(k:Int) else k):=by have hl:b<9223372036854775808:=ω;rw [toInt_fin (by rw [xM _ _ hl];exact hb),NJ _ _ hl,xM _ _ hl,hV,Nat.mul_div_cancel _ kU]
theorem aav (x:Nat):(if sg x then -((dz x).natAbs:Int) else (dz x).natAbs)=dz x:=by
 rw [AZ];cases sg x
 ·rw [Yl γ,Yl γ,Int.natAbs_natCast]
 ·rw [Ym rfl,Ym rfl,Int.natAbs_neg,Int.natAbs_natCast]
theorem aaw (hx:rg x<9218868437227405312) (h0:-9223372036854775808<=dz x) (h1:dz x<9223372036854775808):floatToIntVal .f64 (flb x) .i64=some (dz x):=by
 obtain ⟨b,hb,e,hV⟩:=aat hx;unfold floatToIntVal;show (match (double.read (flb x)).toInt .zero with | some n=>_ | none=>_)=_
 rw [e,aau _ _ _ hb hV,aav];simp only;rw [Ym];exact ⟨h0,by show dz x<=9223372036854775807;omega⟩
def oj (x:Nat):Int:=if sg x then -((V (rg x)/Un:Nat):Int) else (V (rg x)/Un:Nat)
theorem aax (x:Nat):(SV x<oj x*Un->dz x=oj x-1)/\(¬ SV x<oj x*Un->dz x=oj x):=by
 have hU:=kU;rw [AZ];unfold oj SV;have hd:=Nat.div_add_mod (V (rg x)) Un;have hm:=Nat.mod_lt (V (rg x)) hU;generalize V (rg x)/Un=q at *;generalize V (rg x)%Un=r at *;rw [<-hd];cases sg x
 ·simp only [Yl (show ¬ false=true by decide)]
  have:((Un*q+r:Nat):Int)=(q:Int)*Un+r:=by rw [Int.natCast_add,Int.natCast_mul,qaa]
  rw [this];exact ⟨fun h=>ω,fun _=>trivial⟩
 ·simp only [if_true]
  have:((Un*q+r:Nat):Int)=(q:Int)*Un+r:=by rw [Int.natCast_add,Int.natCast_mul,qaa]
  rw [this,Int.neg_mul];by_cases z:r=0
  ·subst z
   exact ⟨fun h=>ω,fun _=>ε⟩
  ·have b:(r != 0)=true:=(by simp [z]);rw [b];exact ⟨fun h=>by simp;omega,fun h=>ω⟩
theorem A4 (k:Nat):V ((k+1023)*4503599627370496)=2^k*Un:=by
 have:=jR (k+1022) 4503599627370496 γ (.inl γ)
 rw [show (k+1022)*4503599627370496+4503599627370496=(k+1023)*4503599627370496 by omega] at this
 rw [this,show (4503599627370496:Nat)=2^52 from rfl,<-Nat.pow_add,vp,show 52+(k+1022)=k+1074 by omega]
theorem V2:V 4611686018427387904=2*Un:=by have h:=A4 1;rw [show (1+1023)*4503599627370496=4611686018427387904 from rfl,show (2:Nat)^1=2 from rfl] at h;exact h
theorem V1:V 4607182418800017408=Un:=by have h:=A4 0;rw [show (0+1023)*4503599627370496=4607182418800017408 from rfl,show (2:Nat)^0=1 from rfl,Nat.one_mul] at h;exact h
def sP (t:Nat):Nat:=if t<4503599627370496 then 2*t else t+4503599627370496
theorem aay (t:Nat):V (sP t)=2*V t:=by
 unfold sP;split
 ·rename_i h
  have a:=jR 0 t ω (.inr rfl);have b:=jR 0 (2*t) ω (.inr rfl);simp only [qaR,qai,Nat.pow_zero,qaE] at a b;rw [a,b]
 ·rename_i h
  obtain ⟨e,m,rfl,h1,h2,-⟩:=form t;have a:=jR e m ω h2;have b:=jR (e+1) m ω ω;rw [show e*4503599627370496+m+4503599627370496=(e+1)*4503599627370496+m by omega,a,b,Nat.pow_succ,qar (2^e),<-Nat.mul_assoc,qar m 2,qaj]
theorem aaz (t:Nat):sP t<=t+4503599627370496:=by unfold sP;split<;>omega
theorem aaA {t:Nat} (h:t+4503599627370496<9218868437227405312):double.mul t 4611686018427387904=some (sP t):=by
 have hr:rg t=t:=Nat.mod_eq_of_lt ω;have hs:sg t=false:=by unfold sg;simp;omega
 obtain ⟨b,hb,e⟩:=NM (x:=t) (y:=4611686018427387904) ω γ;rw [hr,show rg 4611686018427387904=4611686018427387904 from rfl,V2] at hb;have hd:b=sP t:=by refine hb.uniq (Nr.of_eq kU ?_) kU;rw [aay,<-Nat.mul_assoc,qar (V t) 2]
 have:=aaz t
 rw [e,hd,hs,show sg 4611686018427387904=false from rfl,qaU ω];rfl
theorem aaB {t:Nat} (h0:9007199254740992<=t) (h:t<9218868437227405312):double.div t 4611686018427387904=some (t-4503599627370496):=by
 have hr:rg t=t:=Nat.mod_eq_of_lt ω;have hs:sg t=false:=by unfold sg;simp;omega
 have r2:double.read 4611686018427387904=.number false 4503599627370496 (-51):=by decide +kernel
 unfold Format.div;rw [jG (x:=t) ω,r2,hr,hs];obtain ⟨e,m,ht,h1,h2,he⟩:=form t;have hm:mg t=m:=by unfold mg;rw [Yl ω];omega
 have m0:4503599627370496<=m:=ω;have hx:xp t=e:=by unfold xp;omega
 have e0:0<e:=ω;have lg:m.log2=52:=(Nat.log2_eq_iff ω).2 ⟨ω,ω⟩;unfold Datum.quotient;rw [hm,hx];simp only [show double.fractionBits=52 from rfl,lg,show Nat.log2 4503599627370496=52 by decide +kernel,Nat.shiftLeft_eq]
 rw [Yl γ];have q1:m*2^(52+2+52-52)/4503599627370496=m*4:=by rw [show (2:Nat)^(52+2+52-52)=4*4503599627370496 from rfl,<-Nat.mul_assoc,Nat.mul_div_cancel _ γ]
 have q2:m*2^(52+2+52-52)%4503599627370496=0:=by rw [show (2:Nat)^(52+2+52-52)=4*4503599627370496 from rfl,<-Nat.mul_assoc,Nat.mul_mod_left]
 rw [q1,q2];simp only [Option.map];have hw:=Fy (false ^^ false) (2*(m*4)+(0 != 0).toNat) (-1074+(e:Int) - -51-((52+2+52-52:Nat):Int)-1) ((e-1)*4503599627370496+m) e 4 ω ω (by
  refine Nr.of_eq γ ?_;rw [jR (e-1) m ω (.inl m0)];have:2^e=2^(e-1)*2:=by rw [<-Nat.pow_succ];congr 1;omega
  rw [this];simp;rw [show (2:Nat)*(m*4)=m*8 by omega,qaj,qaj]
  congr 1
  omega)
 show some (double.nearest _ _ _)=_;rw [hw,qaU ω];rw [show (false ^^ false)=false from rfl,FH];refine congrArg some ?_;omega
theorem N6 (b:Nat):2^(b/4503599627370496-1)*4503599627370496<=V b+4503599627370496:=by
 obtain ⟨e,m,hb,h1,h2,he⟩:=form b;have a:=jR e m ω h2;rw [<-hb] at a;rw [<-he,a];rcases h2 with q | q
 ·have:4503599627370496*2^e<=m*2^e:=qam _ q
  rw [qar];omega
 ·subst q
  omega
theorem Nr.up (h:Nr x y b):9007199254740992*x<=9007199254740992*(V b*y)+V b*y+4503599627370496*y:=by
 have h1:=h.hi;rw [vf] at h1;have g:=qam y (N6 b);generalize 2^(b/4503599627370496-1)=k at *;rw [qaD] at g;have e1:(V b+(V b+k))*y=2*(V b*y)+k*y:=by rw [<-Nat.add_assoc,qaD,qaD];omega
 have e2:k*4503599627370496*y=4503599627370496*(k*y):=by rw [qar k,qaj]
 rw [e1] at h1;rw [e2] at g;omega
theorem Nr.down (h:Nr x y b):9007199254740992*(V b*y)<=9007199254740992*x+V b*y+4503599627370496*y:=by
 cases b with
 | zero=>rw [qS,qaR];omega
 | succ b =>
  have h1:=h.lo;rw [Nat.add_sub_cancel] at h1;have st:=vf b;have g:=qam y (N6 b);have lv:=qam y (jF (show b<=b+1 by omega))
  generalize 2^(b/4503599627370496-1)=k at *;rw [qaD] at g;have e2:k*4503599627370496*y=4503599627370496*(k*y):=by rw [qar k,qaj]
  rw [e2] at g;have e1:V (b+1)*y=V b*y+k*y:=by rw [st,qaD]
  rw [qaD] at h1;omega
theorem Nr.twice (h:Nr x y b):V b*y<=2*x+y:=by
 have:=h.down
 omega
theorem Oa:1809251394333065553493296640760748560207343510400633813116524750123642650624<=Un:=by
 obtain ⟨k,hk,e⟩:=mV;rw [e];have h1:(2:Nat)^100*2^100*2^50<=2^k:=by rw [<-Nat.pow_add,<-Nat.pow_add];exact qbe γ ω
 have e3:(2:Nat)^100*2^100*2^50=1809251394333065553493296640760748560207343510400633813116524750123642650624:=by decide +kernel
 rw [<-e3];exact h1
theorem vr {u v z:Nat} (t:Nat) (h:9007199254740992*x<=9007199254740992*u+v+4503599627370496*z):9007199254740992*(x*t)<=9007199254740992*(u*t)+v*t+4503599627370496*(z*t):=by
 have:=qam t h
 rw [qaD,qaD,qaj,qaj,qaj] at this;exact this
theorem A9 {u z:Nat} (t:Nat) (h:x<=2*u+z):x*t<=2*(u*t)+z*t:=by
 have:=qam t h
 rw [qaD,qaj] at this;exact this
theorem aaC {d s p:Nat} (b0:0<b) (a1:a<18446744073709551616) (b1:b<18446744073709551616) (d1:d<18446744073709551616)
  (hs:Nr (a*Un) b s) (hy:Nr (d*Un) 1 y) (hp:Nr (V s*V y) Un p) (hq:a*d<=17179869184*b) :
  4*(V p*b)<=4*(a*d*Un)+Un*b/\4*(a*d*Un)<=4*(V p*b)+Un*b:=by
 have dx:=Oa;obtain ⟨U,hU⟩:=qbr Un;rw [hU] at hs hy hp dx ⊢;clear hU;obtain ⟨S,hS⟩:=qbr (V s);obtain ⟨Y,hY⟩:=qbr (V y);obtain ⟨P,hP⟩:=qbr (V p);have s1:=hs.up;have s2:=hs.down;have s3:=hs.twice;have y1:=hy.up;have y2:=hy.down;have y3:=hy.twice;have p1:=hp.up;have p2:=hp.down;have p3:=hp.twice;rw [hS] at s1 s2 s3 p1 p2 p3;rw [hY] at y1 y2 y3 p1 p2 p3;rw [hP] at p1 p2 p3 ⊢;rw [qaE] at y1 y2 y3;clear hs hy hp hS hY hP;obtain ⟨aU,e5⟩:=qbr (a*U);obtain ⟨dU,e6⟩:=qbr (d*U);obtain ⟨Sb,e7⟩:=qbr (S*b);obtain ⟨PU,e8⟩:=qbr (P*U);obtain ⟨SY,e9⟩:=qbr (S*Y);rw [e5,e7] at s1 s2 s3;rw [e6] at y1 y2 y3;rw [e8,e9] at p1 p2 p3;have f1:SY*b=Sb*Y:=by rw [<-e9,<-e7,Nat.mul_right_comm]
 have r1:=vr Y s1;have r2:=vr Y s2;have r3:=A9 Y s3;have r4:=vr aU y1;have r5:=vr aU y2;have r6:=A9 aU y3;have r7:=vr b p1;have r8:=vr b p2;have r9:=A9 b p3;have xG:=A9 b y3;rw [Nat.one_mul,qar Y aU] at r4 r5 r6;rw [f1] at r7 r8 r9;rw [Nat.one_mul,qar Y b] at xG;obtain ⟨W,hW⟩:=qbr (U*b*U);have UU:1809251394333065553493296640760748560207343510400633813116524750123642650624*U<=U*U:=qam U dx;have WU:U*U<=W:=by rw [<-hW,Nat.mul_right_comm];exact Nat.le_mul_of_pos_right _ b0
 have k1:aU<=18446744073709551616*U:=by rw [<-e5];exact qam U ω
 have k2:dU*b<=340282366920938463463374607431768211456*U:=by
  have:d*b<=18446744073709551616*18446744073709551616:=Nat.mul_le_mul ω ω
  rw [<-e6,Nat.mul_right_comm];exact qam U this
 have k3:U*b<=18446744073709551616*U:=by rw [qar];exact qam U ω
 have k4:dU*aU<=17179869184*W:=by
  have h1:a*d*(U*U)<=17179869184*b*(U*U):=qam _ hq;have e:dU*aU=a*d*(U*U):=by rw [<-e5,<-e6,Nat.mul_mul_mul_comm,qar d a]
  have e':17179869184*b*(U*U)=17179869184*W:=by rw [<-hW,qaj,Nat.mul_right_comm U b U,qar (U*U) b]
  rw [e,<-e'];exact h1
 have fin:4*(PU*b)<=4*(dU*aU)+W/\4*(dU*aU)<=4*(PU*b)+W:=ω;have g1:PU*b=P*b*U:=by rw [<-e8,Nat.mul_right_comm]
 have g2:dU*aU=a*d*U*U:=by rw [<-e5,<-e6,Nat.mul_mul_mul_comm,qar d a,<-Nat.mul_assoc]
 have U0:0<U:=ω;rw [g1,g2,<-hW] at fin;obtain ⟨fa,fb⟩:=fin;have e1:4*(P*b*U)=4*(P*b)*U:=(qaj 4 (P*b) U).symm;have e2:4*(a*d*U*U)=4*(a*d*U)*U:=(qaj 4 (a*d*U) U).symm;rw [e1,e2] at fa fb;rw [<-Nat.add_mul] at fa fb;exact ⟨Nat.le_of_mul_le_mul_right fa U0,Nat.le_of_mul_le_mul_right fb U0⟩
def iU (X:Int) (r:Nat):Int:=if X<0 then -(V r:Int) else V r
theorem aaD {X:Int} (h:Nr X.natAbs 1 r):9007199254740992*(iU X r-X)<=2*X.natAbs+1+4503599627370496/\9007199254740992*(X-iU X r)<=2*X.natAbs+1+4503599627370496:=by have h1:=h.up;have h2:=h.down;have h3:=h.twice;rw [qaE,qaE] at h1 h2;rw [qaE] at h3;unfold iU;split<;>omega
theorem aaE {d s p:Nat} {c:Int} (b0:0<b) (a1:a<18446744073709551616) (b1:b<18446744073709551616) (d1:d<18446744073709551616)
  (hs:Nr (a*Un) b s) (hy:Nr (d*Un) 1 y) (hp:Nr (V s*V y) Un p) (hq:a*d<=17179869184*b) (c0:-17179869184<=c) (c1:c<=17179869184)
  (hr:Nr ((V p:Int)+c*Un).natAbs 1 r) :
  2*(iU ((V p:Int)+c*Un) r*b)<=2*(((a*d:Nat):Int)*Un+c*Un*b)+Un*b/\2*(((a*d:Nat):Int)*Un+c*Un*b)<=2*(iU ((V p:Int)+c*Un) r*b)+Un*b:=by
 obtain ⟨h1,h2⟩:=aaC b0 a1 b1 d1 hs hy hp hq;have dx:=Oa;obtain ⟨U,hU⟩:=qbr Un;rw [hU] at h1 h2 hr dx ⊢;clear hU hs hy hp;obtain ⟨P,hP⟩:=qbr (V p);rw [hP] at h1 h2 hr ⊢;clear hP;obtain ⟨n1,n2⟩:=aaD hr;have hPb:P*b<=17179869185*U*b:=by
  have k1:a*d*U<=17179869184*b*U:=qam U hq;have e1:17179869184*b*U=17179869184*(U*b):=by rw [qaj,qar b U]
  have e2:17179869185*U*b=17179869185*(U*b):=qaj _ _ _;omega
 have FY:P<=17179869185*U:=Nat.le_of_mul_le_mul_right hPb b0;have cU0:-(17179869184*(U:Int))<=c*U:=by
  have:=qae c0 (show (0:Int)<=U by omega)
  omega
 have cU1:c*U<=17179869184*(U:Int):=qae c1 ω;obtain ⟨X,hX⟩:=qbr ((P:Int)+c*U);rw [hX] at n1 n2 ⊢;obtain ⟨R,hR⟩:=qbr (iU X r);rw [hR] at n1 n2 ⊢;have m1:4*(R-X)<=U/\4*(X-R)<=U:=ω;have bb:(0:Int)<=(b:Int):=ω;have t1:=qae m1.1 bb;have t2:=qae m1.2 bb;have e3:X*b=(P:Int)*b+c*U*b:=by rw [<-hX,qaC]
 have e4:4*(R-X)*(b:Int)=4*(R*b)-4*(X*b):=by rw [qaG,Int.sub_mul];omega
 have e5:4*(X-R)*(b:Int)=4*(X*b)-4*(R*b):=by rw [qaG,Int.sub_mul];omega
 rw [e4] at t1;rw [e5] at t2;have h1':4*((P:Int)*b)<=4*(((a*d:Nat):Int)*U)+(U:Int)*b:=by exact_mod_cast h1
 have Ob:4*(((a*d:Nat):Int)*U)<=4*((P:Int)*b)+(U:Int)*b:=by exact_mod_cast h2
 omega
