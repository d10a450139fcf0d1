/- Plain arithmetic of whole numbers in two words and in eight digits: no Go in it. -/
import Derived.Test.YtklkpldicbkjeaaGreatVPBs
set_option linter.unusedVariables false
namespace Go.Proofs.YtklkpldicbkjeaaGreat
open Go.RowKit
def aq (v:Int):Int:=(v/18446744073709551616+9223372036854775808)%18446744073709551616-9223372036854775808
def ar (v:Int):Int:=v%18446744073709551616
theorem T7 (v:Int):-9223372036854775808<=aq v/\aq v<9223372036854775808:=by
 unfold aq;omega
theorem rR (v:Int):0<=ar v/\ar v<18446744073709551616:=by
 unfold ar;omega
def sv (v:Int):Int:=aq v*18446744073709551616+ar v
theorem uk (v:Int):sv v=(v+170141183460469231731687303715884105728)%340282366920938463463374607431768211456-170141183460469231731687303715884105728:=by
 unfold sv aq ar;omega
theorem pV (v:Int) (h0:-170141183460469231731687303715884105728<=v) (h1:v<170141183460469231731687303715884105728):sv v=v:=by
 rw [uk];omega
theorem ac' (a b:Int):IntKind.u64.wrap a*b%18446744073709551616=ar (a*b):=by
 rw [IntKind.wrap_u64];unfold ar;exact (by rw [Int.mul_emod (a%18446744073709551616) b,Int.emod_emod_of_dvd a (Int.dvd_refl _),<-Int.mul_emod])
theorem ada (a b:Int) (h0:-9223372036854775808<=a) (h1:a<9223372036854775808) (hn:a<0) :
  wrap64 (IntKind.u64.wrap (IntKind.u64.wrap a*b/18446744073709551616-b))=aq (a*b):=by
 have e:IntKind.u64.wrap a=a+18446744073709551616:=by rw [IntKind.wrap_u64];omega
 rw [e,Int.add_mul,IntKind.wrap_u64];generalize a*b=p;unfold wrap64 aq;omega
theorem adb (a b:Int):wrap64 (a*b/18446744073709551616)=aq (a*b):=by
 unfold wrap64 aq;omega
def bI (a b:Int):Int:=if a<b then -1 else if a=b then 0 else 1
theorem ade (x y:Int):(aq x=aq y/\ar x=ar y)↔sv x=sv y:=by
 unfold sv;have:=rR x;have:=rR y;constructor
 ·intro ⟨a,b⟩;rw [a,b]
 ·intro h;omega
theorem adf (x y:Int):sv x<sv y↔(aq x<aq y\/(aq x=aq y/\ar x<ar y)):=by
 unfold sv;have:=rR x;have:=rR y;omega
def dg (x:Int) (i:Nat):Int:=x/65536^i%65536
def cr (x y:Int) (k:Nat):Int:=(x%65536^k+y%65536^k)/65536^k
theorem av (x:Int) (i:Nat):0<=dg x i/\dg x i<65536:=by unfold dg;omega
theorem adg (x:Int):ar x%65536=dg x 0/\ar x/65536%65536=dg x 1/\ar x/65536/65536%65536=dg x 2/\ar x/65536/65536/65536%65536=dg x 3:=by
 unfold dg ar;omega
theorem adh (x:Int):IntKind.u64.wrap (aq x)%65536=dg x 4/\IntKind.u64.wrap (aq x)/65536%65536=dg x 5/\IntKind.u64.wrap (aq x)/65536/65536%65536=dg x 6/\IntKind.u64.wrap (aq x)/65536/65536/65536%65536=dg x 7:=by
 rw [IntKind.wrap_u64];unfold dg aq;omega
theorem adi (x:Int):((dg x 3*65536+dg x 2)*65536+dg x 1)*65536+dg x 0=ar x:=by unfold dg ar;omega
theorem adj (x:Int):wrap64 (((dg x 7*65536+dg x 6)*65536+dg x 5)*65536+dg x 4)=aq x:=by unfold dg aq wrap64;omega
theorem pw (k:Nat):(0:Int)<65536^k:=Int.pow_pos (by decide)
theorem div_add (x y P:Int) (hP:0<P):(x+y)/P=x/P+y/P+(x%P+y%P)/P:=by
 have e1:=Int.mul_ediv_add_emod x P;have e2:=Int.mul_ediv_add_emod y P;have e:x+y=(x%P+y%P)+(x/P+y/P)*P:=by
  rw [Int.add_mul,Int.mul_comm (x/P),Int.mul_comm (y/P)];omega
 rw [e,Int.add_mul_ediv_right _ _ (by omega)]
 omega
theorem pW (x y:Int) (k:Nat):0<=cr x y k/\cr x y k<=1:=by
 unfold cr;have hP:=pw k;have a0:=Int.emod_nonneg x (b:=65536^k) (by omega)
 have a1:=Int.emod_lt_of_pos x hP;have b0:=Int.emod_nonneg y (b:=65536^k) (by omega)
 have b1:=Int.emod_lt_of_pos y hP;have h1:(x%65536^k+y%65536^k)/65536^k<2:=Int.ediv_lt_of_lt_mul hP (by omega)
 exact ⟨Int.ediv_nonneg (by omega) (by omega),by omega⟩
theorem adk (x y:Int):cr x y 0=0:=by unfold cr;simp
theorem pX (x y:Int) (k:Nat):(dg x k+dg y k+cr x y k)%65536=dg (x+y) k:=by
 unfold dg cr;rw [div_add x y _ (pw k)];generalize x/65536^k=p;generalize y/65536^k=q;omega
theorem AU (x:Int) (k:Nat):x%65536^(k+1)=x%65536^k+65536^k*dg x k:=by
 unfold dg;rw [Int.pow_succ];have hP:=pw k;have e1:=Int.mul_ediv_add_emod x (65536^k);have e2:=Int.mul_ediv_add_emod x (65536^k*65536);have e3:=Int.mul_ediv_add_emod (x/65536^k) 65536;have e4:x/65536^k/65536=x/(65536^k*65536):=Int.ediv_ediv_of_nonneg (by omega)
 rw [e4] at e3;have e5:65536^k*(x/65536^k)=65536^k*(65536*(x/(65536^k*65536))+x/65536^k%65536):=by rw [e3]
 rw [Int.mul_add,<-Int.mul_assoc] at e5;omega
theorem pY (x y:Int) (k:Nat):(dg x k+dg y k+cr x y k)/65536=cr x y (k+1):=by
 have hP:=pw k;rw [cr,cr,AU,AU,Int.pow_succ];have e:x%65536^k+65536^k*dg x k+(y%65536^k+65536^k*dg y k)=(x%65536^k+y%65536^k)+(dg x k+dg y k)*65536^k:=by
  rw [Int.add_mul,Int.mul_comm (dg x k),Int.mul_comm (dg y k)];omega
 rw [e,<-Int.ediv_ediv_of_nonneg (by omega),Int.add_mul_ediv_right _ _ (by omega)]
 congr 1;omega
theorem pZ (x:Int) (k:Nat):65535-dg x k=dg (-1-x) k:=by
 unfold dg;have hP:=pw k;have e1:=Int.mul_ediv_add_emod x (65536^k);have a0:=Int.emod_nonneg x (b:=65536^k) (by omega)
 have a1:=Int.emod_lt_of_pos x hP;have e:-1-x=(65536^k-1-x%65536^k)+(-1-x/65536^k)*65536^k:=by
  rw [Int.sub_mul,Int.mul_comm (x/65536^k)];omega
 have e2:(65536^k-1-x%65536^k)/65536^k=0:=Int.ediv_eq_zero_of_lt (by omega) (by omega)
 rw [e,Int.add_mul_ediv_right _ _ (by omega),e2]
 generalize x/65536^k=p;omega
def mc (a y:Int) (k:Nat):Int:=a*(y%65536^k)/65536^k
theorem p9 (a y:Int):mc a y 0=0:=by unfold mc;simp
theorem dt (a y:Int) (k:Nat) (a0:0<=a) (a1:a<65536):0<=mc a y k/\mc a y k<=65535:=by
 unfold mc;have hP:=pw k;have b0:=Int.emod_nonneg y (b:=65536^k) (by omega)
 have b1:=Int.emod_lt_of_pos y hP;have m0:0<=a*(y%65536^k):=Int.mul_nonneg a0 b0;have m1:a*(y%65536^k)<=65535*(y%65536^k):=Int.mul_le_mul_of_nonneg_right (by omega) b0
 have h1:a*(y%65536^k)/65536^k<65536:=Int.ediv_lt_of_lt_mul hP (by omega)
 exact ⟨Int.ediv_nonneg m0 (by omega),by omega⟩
theorem cx (a d:Int) (a0:0<=a) (a1:a<65536) (d0:0<=d) (d1:d<65536):0<=a*d/\a*d<=4294836225:=by
 have m1:a*d<=65535*d:=Int.mul_le_mul_of_nonneg_right (by omega) d0
 exact ⟨Int.mul_nonneg a0 d0,by omega⟩
theorem adl (a y:Int) (k:Nat):a*y/65536^k=mc a y k+a*(y/65536^k):=by
 unfold mc;have hP:=pw k;have e:=Int.mul_ediv_add_emod y (65536^k);have e2:a*y=a*(y%65536^k)+a*(y/65536^k)*65536^k:=by
  have:a*y=a*(65536^k*(y/65536^k)+y%65536^k):=by rw [e]
  rw [this,Int.mul_add,Int.mul_comm (65536^k),<-Int.mul_assoc];omega
 rw [e2,Int.add_mul_ediv_right _ _ (by omega)]
theorem cA (a y:Int) (k:Nat):(a*dg y k+mc a y k)%65536=dg (a*y) k:=by
 unfold dg;rw [adl];generalize mc a y k=c;generalize y/65536^k=q;have e:=Int.mul_ediv_add_emod q 65536;have e2:a*q=a*(q%65536)+a*(q/65536)*65536:=by
  have:a*q=a*(65536*(q/65536)+q%65536):=by rw [e]
  rw [this,Int.mul_add,Int.mul_comm 65536,<-Int.mul_assoc];omega
 omega
theorem cB (a y:Int) (k:Nat):(a*dg y k+mc a y k)/65536=mc a y (k+1):=by
 have hP:=pw k;rw [mc,mc,AU,Int.pow_succ];have e:a*(y%65536^k+65536^k*dg y k)=a*(y%65536^k)+(a*dg y k)*65536^k:=by
  rw [Int.mul_add,Int.mul_comm (65536^k),<-Int.mul_assoc]
 rw [e,<-Int.ediv_ediv_of_nonneg (by omega),Int.add_mul_ediv_right _ _ (by omega)]
 congr 1;omega
theorem du (z:Int) (i t:Nat) (h:t<i):dg (z*65536^i) t=0:=by
 unfold dg;obtain ⟨d,rfl⟩:∃ d,i=t+(d+1):=⟨i-t-1,by omega⟩
 rw [Int.pow_add,<-Int.mul_assoc,Int.mul_comm (z*65536^t),Int.mul_comm z,<-Int.mul_assoc,Int.mul_comm (65536^(d+1)*65536^t)];rw [<-Int.mul_assoc,Int.mul_ediv_cancel _ (by have:=pw t;omega),Int.pow_succ,<-Int.mul_assoc]
 exact Int.mul_emod_left _ _
theorem cC (z:Int) (i k:Nat):dg (z*65536^i) (i+k)=dg z k:=by
 unfold dg;rw [Int.pow_add,Int.mul_comm z,Int.mul_ediv_mul_of_pos _ _ (pw i)]
theorem Io (z t:Int) (k:Nat) (h:k<8):dg (z+t*65536^8) k=dg z k:=by
 unfold dg;obtain ⟨d,hd⟩:∃ d,8=k+(d+1):=⟨8-k-1,by omega⟩
 have e:t*65536^8=(t*65536^d*65536)*65536^k:=by
  rw [hd,Int.pow_add,Int.pow_succ,Int.mul_comm (65536^k),<-Int.mul_assoc,<-Int.mul_assoc]
 rw [e,Int.add_mul_ediv_right _ _ (by have:=pw k;omega)]
 omega
theorem qa (x y:Int) (k:Nat) (h:k<8):dg (x%65536^8*y) k=dg (x*y) k:=by
 have e:=Int.mul_ediv_add_emod x (65536^8);have e2:x*y=x%65536^8*y+(x/65536^8*y)*65536^8:=by
  have:x*y=(65536^8*(x/65536^8)+x%65536^8)*y:=by rw [e]
  rw [this,Int.add_mul,Int.mul_comm (65536^8),Int.mul_assoc,Int.mul_comm (65536^8) y,<-Int.mul_assoc];omega
 rw [e2,Io _ _ _ h]
theorem p2 (k:Nat):(0:Int)<2^k:=Int.pow_pos (by decide)
theorem Ip (k:Nat):(65536:Int)^k=2^(16*k):=by
 rw [Int.pow_mul];rfl
theorem adm (u:Int) (e:Nat):u/2^(e+1)=u/2^e/2:=by
 rw [Int.pow_succ,Int.ediv_ediv_of_nonneg (by have:=p2 e;omega)]
def qp (Q:Int) (t:Nat):Int:=Q/2^t*2^t
def rp (u d:Int) (t:Nat):Int:=u/2^t%d
def bt (u:Int) (e:Nat):Int:=u/2^e%2
theorem Iq (u:Int) (e:Nat):bt u e=0\/bt u e=1:=by unfold bt;omega
theorem AV (u d:Int) (t:Nat) (hd:0<d):0<=rp u d t/\rp u d t<d :=
 ⟨Int.emod_nonneg _ (by omega),Int.emod_lt_of_pos _ hd⟩
theorem Ua (u d:Int) (e:Nat) (hd:0<d) :
  (d<=2*rp u d (e+1)+bt u e->rp u d e=2*rp u d (e+1)+bt u e-d/\qp (u/d) e=qp (u/d) (e+1)+2^e) /\
  (2*rp u d (e+1)+bt u e<d->rp u d e=2*rp u d (e+1)+bt u e/\qp (u/d) e=qp (u/d) (e+1)):=by
 have hP:=p2 e;have hu:u/2^e=2*(u/2^(e+1))+bt u e:=by unfold bt;rw [adm];omega
 have swap:∀ t,u/d/2^t=u/2^t/d:=fun t=>by
  rw [Int.ediv_ediv_of_nonneg (by omega),Int.ediv_ediv_of_nonneg (by have:=p2 t;omega),Int.mul_comm]
 have ba:=Iq u e;obtain ⟨r0,r1⟩:=AV u d (e+1) hd;have ep:=Int.mul_ediv_add_emod (u/2^(e+1)) d;have er:u/2^(e+1)%d=rp u d (e+1):=rfl;rw [er] at ep;unfold qp;rw [swap,swap];generalize u/2^(e+1)/d=p at *;have adn:(2:Int)^(e+1)=2^e*2:=Int.pow_succ _ _;have e0:rp u d e=u/2^e%d:=rfl;have um:u/2^e=(2*rp u d (e+1)+bt u e)+(2*p)*d:=by
  rw [hu,Int.mul_assoc,Int.mul_comm p d];omega
 rw [e0,um,Int.add_mul_emod_self_right,Int.add_mul_ediv_right _ _ (by omega),adn]
 generalize rp u d (e+1)=r at *;generalize bt u e=b at *;constructor
 ·intro h
  have m:(2*r+b)%d=2*r+b-d:=by
   have:2*r+b=(2*r+b-d)+1*d:=by omega
   rw [this,Int.add_mul_emod_self_right,Int.emod_eq_of_lt (by omega) (by omega)];omega
  have q:(2*r+b)/d=1:=by
   have:2*r+b=(2*r+b-d)+1*d:=by omega
   rw [this,Int.add_mul_ediv_right _ _ (by omega),Int.ediv_eq_zero_of_lt (by omega) (by omega)];omega
  refine ⟨m,?_⟩;rw [q,Int.add_mul,Int.mul_comm (2^e) 2,<-Int.mul_assoc,Int.mul_comm p 2];omega
 ·intro h
  refine ⟨Int.emod_eq_of_lt (by omega) h,?_⟩
  rw [Int.ediv_eq_zero_of_lt (by omega) h,Int.mul_comm (2^e) 2,<-Int.mul_assoc,Int.mul_comm p 2];simp
theorem Ir (b:Nat) (h:b<16):b=0\/b=1\/b=2\/b=3\/b=4\/b=5\/b=6\/b=7\/b=8\/b=9\/b=10\/b=11\/b=12\/b=13\/b=14\/b=15:=by omega
theorem Ub (u:Int) (i b:Nat) (h:b<16):dg u i/2^b%2=bt u (16*i+b):=by
 unfold dg bt;rw [Ip,Int.pow_add,<-Int.ediv_ediv_of_nonneg (by have:=p2 (16*i);omega)]
 generalize u/2^(16*i)=v;rcases Ir b h with rfl | rfl | rfl | rfl | rfl | rfl | rfl | rfl | rfl | rfl | rfl | rfl | rfl | rfl | rfl | rfl<;>simp<;>omega
theorem Uc (Q:Int) (i b:Nat) (h:b<16) (k:Nat) :
  dg (qp Q (16*i+b+1)+2^(16*i+b)) k=if k=i then dg (qp Q (16*i+b+1)) i+2^b else dg (qp Q (16*i+b+1)) k:=by
 unfold qp;generalize Q/2^(16*i+b+1)=c;unfold dg;rw [Ip,Ip];have he:(2:Int)^(16*i+b+1)=2^(16*i+b)*2:=Int.pow_succ _ _;rcases Nat.lt_trichotomy k i with hk | hk | hk
 ·rw [if_neg (by omega)]
  obtain ⟨m,rfl⟩:∃ m,i=k+1+m:=⟨i-k-1,by omega⟩
  have hf:(2:Int)^(16*(k+1+m)+b)=(2^(16*m+b)*65536)*2^(16*k):=by
   rw [show 16*(k+1+m)+b=(16*m+b)+16+16*k by omega,Int.pow_add,Int.pow_add];rfl
  have h1:c*2^(16*(k+1+m)+b+1)=(c*2*2^(16*m+b)*65536)*2^(16*k):=by
   rw [he,hf];generalize (2:Int)^(16*m+b)=A;generalize (2:Int)^(16*k)=B;rw [<-Int.mul_assoc,<-Int.mul_assoc,<-Int.mul_assoc,Int.mul_assoc (c*A*65536),Int.mul_comm B 2,<-Int.mul_assoc];congr 1;rw [Int.mul_assoc c 2,Int.mul_comm 2 A,<-Int.mul_assoc,Int.mul_assoc (c*A),Int.mul_comm 65536 2,<-Int.mul_assoc]
  rw [h1,hf,<-Int.add_mul,Int.mul_ediv_cancel _ (by have:=p2 (16*k);omega),Int.mul_ediv_cancel _ (by have:=p2 (16*k);omega)]
  omega
 ·subst hk
  rw [if_pos rfl];have hf:(2:Int)^(16*k+b)=2^b*2^(16*k):=by rw [Nat.add_comm,Int.pow_add]
  have h1:c*2^(16*k+b+1)=(c*2*2^b)*2^(16*k):=by
   rw [he,hf,Int.mul_comm (2^b*2^(16*k)) 2,<-Int.mul_assoc,<-Int.mul_assoc]
  rw [h1,hf,<-Int.add_mul,Int.mul_ediv_cancel _ (by have:=p2 (16*k);omega),Int.mul_ediv_cancel _ (by have:=p2 (16*k);omega)]
  rcases Ir b h with rfl | rfl | rfl | rfl | rfl | rfl | rfl | rfl | rfl | rfl | rfl | rfl | rfl | rfl | rfl | rfl<;>simp<;>omega
 ·rw [if_neg (by omega)]
  obtain ⟨m,hm⟩:∃ m,16*k=(16*i+b+1)+m:=⟨16*k-(16*i+b+1),by omega⟩
  have hE:=p2 (16*i+b);have hZ:(2:Int)^(16*i+b)/2^(16*i+b+1)=0:=Int.ediv_eq_zero_of_lt (by omega) (by omega)
  rw [hm,Int.pow_add 2 (16*i+b+1) m,<-Int.ediv_ediv_of_nonneg (by have:=p2 (16*i+b+1);omega),<-Int.ediv_ediv_of_nonneg (by have:=p2 (16*i+b+1);omega),Int.add_comm,Int.add_mul_ediv_right _ _ (by have:=p2 (16*i+b+1);omega),
   hZ,Int.mul_ediv_cancel _ (by have:=p2 (16*i+b+1);omega),Int.zero_add]
theorem Ud (Q:Int) (h0:0<=Q) (h1:Q<2^128):qp Q 128=0:=by
 unfold qp;rw [Int.ediv_eq_zero_of_lt h0 h1];simp
theorem Ue (u d:Int) (h0:0<=u) (h1:u<2^128):rp u d 128=0:=by
 unfold rp;rw [Int.ediv_eq_zero_of_lt h0 h1];simp
theorem Uf (Q:Int):qp Q 0=Q:=by unfold qp;simp
theorem Is (u d:Int):rp u d 0=u%d:=by unfold rp;simp
theorem Ug (b:Nat):(2:Int)^(b+1)/2=2^b:=by rw [Int.pow_succ];exact Int.mul_ediv_cancel _ (by decide)
theorem Uh (b:Nat) (h:b<16):(2:Int)^b<=32768:=by
 rcases Ir b h with rfl | rfl | rfl | rfl | rfl | rfl | rfl | rfl | rfl | rfl | rfl | rfl | rfl | rfl | rfl | rfl<;>decide
theorem Ui {b q r:Int} (r0:0<=r) (r1:r<b):(b*q+r)/b=q:=by
 rw [Int.add_comm,Int.add_mul_ediv_left _ _ (by omega),Int.ediv_eq_zero_of_lt r0 r1]
 omega
structure xK (num den d whole rest x y one a two b:Int):Prop where
 w0:0<=whole
 r0:0<=rest
 r1:rest<den
 ew:num=den*whole+rest
 ex:x=rest/2*d
 ey:y=rest/2*d+rest%2*d
 x0:0<=x
 y0:0<=y
 e1:x=den*one+a
 e2:y=den*two+b
 a0:0<=a
 a1:a<den
 b0:0<=b
 b1:b<den
 o0:0<=one
 t0:0<=two
 lt:one+two<=d
 xs:x<340282366920938463463374607431768211456
theorem ado {num den d:Int} (n0:0<=num) (n1:num<18446744073709551616) (d0:0<den) (d1:den<18446744073709551616) (f0:0<=d) (f1:d<18446744073709551616) :
  xK num den d (num/den) (num%den) (num%den/2*d) (num%den/2*d+num%den%2*d) (num%den/2*d/den) (num%den/2*d%den) ((num%den/2*d+num%den%2*d)/den) ((num%den/2*d+num%den%2*d)%den):=by
 have r0:=Int.emod_nonneg num (show den≠0 by omega)
 have r1:=Int.emod_lt_of_pos num d0;generalize hr:num%den=r at r0 r1;have q1:0<=r/2*d:=Int.mul_nonneg (by omega) f0
 have q2:0<=r%2*d:=Int.mul_nonneg (by omega) f0
 have ee:r/2*d+(r/2*d+r%2*d)=r*d:=by
  rw [<-Int.add_mul,<-Int.add_mul];congr 1;omega
 have up:r*d<=den*d:=Int.mul_le_mul_of_nonneg_right (by omega) f0
 have up2:r/2*d<=r*d:=Int.mul_le_mul_of_nonneg_right (by omega) f0
 have iC:den*d<=18446744073709551616*d:=Int.mul_le_mul_of_nonneg_right (by omega) f0
 have x1:=Int.emod_add_mul_ediv (r/2*d) den;have y1:=Int.emod_add_mul_ediv (r/2*d+r%2*d) den;have xa:=Int.emod_nonneg (r/2*d) (show den≠0 by omega)
 have xb:=Int.emod_lt_of_pos (r/2*d) d0;have ya:=Int.emod_nonneg (r/2*d+r%2*d) (show den≠0 by omega)
 have yb:=Int.emod_lt_of_pos (r/2*d+r%2*d) d0;refine ⟨Int.ediv_nonneg n0 (by omega),r0,r1,?_,rfl,rfl,q1,by omega,by omega,by omega,xa,xb,ya,yb,Int.ediv_nonneg q1 (by omega),Int.ediv_nonneg (by omega) (by omega),?_,by omega⟩
 ·have:=Int.emod_add_mul_ediv num den
  omega
 ·have e3:den*(r/2*d/den+(r/2*d+r%2*d)/den)<=den*d:=by
   rw [Int.mul_add];omega
  exact Int.le_of_mul_le_mul_left e3 d0
theorem xK.sum {num den d whole rest x y one a two b:Int} (p:xK num den d whole rest x y one a two b) (d0:0<den):num*d/den=whole*d+(if den-b<=a then one+two+1 else one+two):=by
 have e:num*d=den*(whole*d+(one+two))+(a+b):=by
  have h1:num*d=den*(whole*d)+rest*d:=by rw [p.ew,Int.add_mul,Int.mul_assoc]
  have h2:rest*d=x+y:=by
   rw [p.ex,p.ey,<-Int.add_mul,<-Int.add_mul];congr 1;omega
  have h3:=p.e1;have h4:=p.e2;rw [h1,h2,h3,h4,Int.mul_add,Int.mul_add];omega
 have a0:=p.a0;have a1:=p.a1;have b0:=p.b0;have b1:=p.b1;split
 ·rename_i h
  have e':num*d=den*(whole*d+(one+two+1))+(a+b-den):=by
   have q:den*(whole*d+(one+two+1))=den*(whole*d+(one+two))+den:=by
    rw [<-Int.add_assoc (whole*d),Int.mul_add den _ 1,Int.mul_one]
   omega
  rw [e',Ui (by omega) (by omega)]
 ·rename_i h
  rw [e,Ui (by omega) (by omega)]
theorem xK.carry {num den d whole rest x y one a two b:Int} (p:xK num den d whole rest x y one a two b) (d0:0<den) (k:den-b<=a):one+two+1<=d:=by
 have h2:rest*d=x+y:=by
  rw [p.ex,p.ey,<-Int.add_mul,<-Int.add_mul];congr 1;omega
 have dn:0<=d:=by have:=p.o0;have:=p.t0;have:=p.lt;omega
 have h3:rest*d<=den*d:=Int.mul_le_mul_of_nonneg_right (by have:=p.r1;omega) dn
 have h4:den*(one+two+1)<=den*d:=by
  have e1:=p.e1;have e2:=p.e2;rw [Int.mul_add,Int.mul_add,Int.mul_one];omega
 exact Int.le_of_mul_le_mul_left h4 d0
theorem Uj {whole d:Int} (w0:0<whole) (d0:0<=d):2305843009213693952/whole<d↔2305843009213693952<whole*d:=by
 rw [Int.ediv_lt_iff_lt_mul w0,Int.mul_comm]
end Go.Proofs.YtklkpldicbkjeaaGreat
