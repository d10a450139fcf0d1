import Derived.Test.YtaemofgeciklkaaGreatEPBs
import Derived.Test.YtaemofgeciklkaaGreatEShelf
set_option linter.unusedVariables false
set_option maxHeartbeats 4000000
open Go.Proofs.Tryz
namespace Go.Proofs.YtaemofgeciklkaaGreat
variable {d:Int}
theorem Kx {B C J u v A:Int} (h1:B*d*v<=A*u*v) (h2:A*v*u<=J*d*u) (d0:0<d):B*v<=J*u:=by rw [qal B d v] at h1;rw [qal A v u,qal J d u] at h2;exact qaX (Int.le_trans h1 h2) d0
variable {gt gp xt xp:Int}
theorem afZ {ga gj xa xj:Int} (d0:xa<xt) (u0:xt<xp) (v0:xj<=xt) (h1:(gt-ga)*(xp-xa)<(gp-ga)*(xt-xa)) (h2:(gt-ga)*(xj-xa)<=(gj-ga)*(xt-xa)) :
  (gp-gt)*(xj-xt)<=(gj-gt)*(xp-xt):=by
 have a1:(gt-ga)*(xp-xt)<=(gp-gt)*(xt-xa):=by
  have e1:(gt-ga)*(xp-xa)=(gt-ga)*(xp-xt)+(gt-ga)*(xt-xa):=by rw [<-Int.mul_add];congr 1;omega
  have e2:(gp-ga)*(xt-xa)=(gp-gt)*(xt-xa)+(gt-ga)*(xt-xa):=by rw [<-Int.add_mul];congr 1;omega
  omega
 have a2:(gt-ga)*(xj-xt)<=(gj-gt)*(xt-xa):=by
  have e1:(gt-ga)*(xj-xa)=(gt-ga)*(xj-xt)+(gt-ga)*(xt-xa):=by rw [<-Int.mul_add];congr 1;omega
  have e2:(gj-ga)*(xt-xa)=(gj-gt)*(xt-xa)+(gt-ga)*(xt-xa):=by rw [<-Int.add_mul];congr 1;omega
  omega
 refine Kx (C:=0) (d:=xt-xa) (A:=gt-ga) ?_ (qae a2 ω) ω;exact Int.mul_le_mul_of_nonpos_right a1 ω
theorem af1 {gb gj xb xj:Int} (w0:xt<xb) (u0:xt<xp) (v0:xt<=xj) (h1:(gp-gt)*(xb-xt)<=(gb-gt)*(xp-xt)) (h2:(gb-gt)*(xj-xt)<=(gj-gt)*(xb-xt)) :
  (gp-gt)*(xj-xt)<=(gj-gt)*(xp-xt) :=
 Kx (C:=0) (d:=xb-xt) (A:=gb-gt) (qae h1 ω) (qae h2 ω) ω
theorem af2 {ga gb xa xb:Int} (d0:xa<xt) (w0:xt<xb) (u0:xt<xp) (h1:(gp-ga)*(xt-xa)<=(gt-ga)*(xp-xa)) (h2:(gt-ga)*(xb-xa)<=(gb-ga)*(xt-xa)) :
  (gp-gt)*(xb-xt)<=(gb-gt)*(xp-xt):=by
 have a1:(gp-gt)*(xt-xa)<=(gt-ga)*(xp-xt):=by
  have e1:(gt-ga)*(xp-xa)=(gt-ga)*(xp-xt)+(gt-ga)*(xt-xa):=by rw [<-Int.mul_add];congr 1;omega
  have e2:(gp-ga)*(xt-xa)=(gp-gt)*(xt-xa)+(gt-ga)*(xt-xa):=by rw [<-Int.add_mul];congr 1;omega
  omega
 have a2:(gt-ga)*(xb-xt)<=(gb-gt)*(xt-xa):=by
  have e1:(gt-ga)*(xb-xa)=(gt-ga)*(xb-xt)+(gt-ga)*(xt-xa):=by rw [<-Int.mul_add];congr 1;omega
  have e2:(gb-ga)*(xt-xa)=(gb-gt)*(xt-xa)+(gt-ga)*(xt-xa):=by rw [<-Int.add_mul];congr 1;omega
  omega
 exact Kx (C:=0) (d:=xt-xa) (A:=gt-ga) (qae a1 ω) (qae a2 ω) ω
structure dJ (X g:Nat->Int) (n m:Nat) (c:Nat->Nat):Prop where
 pos:0<m
 first:c 0=0
 last:c (m-1)+1=n
 up:∀ i,i+1<m->c i<c (i+1)
 abv:∀ i j,i+1<m->j<n->(g (c (i+1))-g (c i))*(X j-X (c i))<=(g j-g (c i))*(X (c (i+1))-X (c i))
variable {X g:Nat->Int} {n m:Nat} {c:Nat->Nat}
theorem dJ.lt (h:dJ X g n m c):∀ {i j:Nat},i<j->j<m->c i<c j:=by
 intro i j yK hj;induction j with
 | zero=>omega
 | succ j ih =>
  have h1:=h.up j hj;by_cases e:i=j
  ·subst e;exact h1
  ·have h2:=ih ω ω
   omega
variable {i:Nat}
theorem dJ.le (h:dJ X g n m c) {j:Nat} (yK:i<=j) (hj:j<m):c i<=c j:=by
 by_cases e:i=j
 ·subst e;omega
 ·have:=h.lt (show i<j by omega) hj;omega
theorem dJ.bd (h:dJ X g n m c) (hi:i<m):c i<n:=by
 have h1:=h.le (show i<=m-1 by omega) ω
 have h2:=h.last;omega
theorem dJ.len (h:dJ X g n m c):m<=n:=by
 have hs:∀ i,i<m->i<=c i:=by
  intro i;induction i with
  | zero=>intro _;omega
  | succ i ih=>intro hi;have:=ih ω;have:=h.up i hi;omega
 have h1:=hs (m-1) (by have:=h.pos;omega)
 have h2:=h.last;have h3:=h.pos;omega
def sE (X g:Nat->Int) (c:Nat->Nat) (x y:Int) (i:Nat):Prop:=(y-g (c i))*(X (c (i+1))-X (c i))<=(g (c (i+1))-g (c i))*(x-X (c i))
variable {x:Int}
theorem dJ.mono {y:Int} (h:dJ X g n m c) (u:Up X n) (hx:X (n-1)<x):∀ {i j:Nat},i<=j->j+1<m->sE X g c x y i->sE X g c x y j:=by
 intro i j yK hj hi;induction j with
 | zero =>
      have:i=0:=ω
      subst this;exact hi
 | succ j ih =>
  by_cases e:i=j+1
  ·subst e;exact hi
  ·have hb:=ih ω ω
   have b1:=h.bd (show j+1<m by omega)
   have b2:=h.bd (show j+1+1<m by omega)
   have x1:=u.le (show c (j+1)<=n-1 by omega) ω
   exact af2 (u.lt (h.up j ω) b1) (u.lt (h.up (j+1) hj) b2) ω hb (h.abv j (c (j+1+1)) ω b2)
structure kL (X g:Nat->Int) (m:Nat) (c:Nat->Nat) (x y:Int) (t:Nat):Prop where
 lt:t<m
 lo:∀ i,i<t->¬ sE X g c x y i
 hi:∀ i,t<=i->i+1<m->sE X g c x y i
variable {t:Nat}
theorem dJ.touch {y:Int} (h:dJ X g n m c) (u:Up X n) (hx:X (n-1)<x) (ht:kL X g m c x y t) :
  ∀ j,j<n->(y-g (c t))*(X j-X (c t))<=(g j-g (c t))*(x-X (c t)):=by
 intro j hj;have tl:=ht.lt;have bt:=h.bd tl;have xt:=u.le (show c t<=n-1 by omega) ω
 rcases qaB (c t) j with q | q
 ·
  have DY:t+1<m:=by
   rcases qaB (t+1) m with r | r
   ·exact r
   ·have e:t=m-1:=(by omega);have:=h.last
    rw [<-e] at this;omega
  have b1:=h.bd DY;exact af1 (u.lt (h.up t DY) b1) ω (u.le ω hj) (ht.hi t (Yk _) DY) (h.abv t j DY hj)
 ·by_cases e:t=0
  ·subst e
   have:=h.first
   have ej:j=c 0:=ω;rw [<-ej];have e1:X j-X j=0:=ω;have e2:g j-g j=0:=ω;rw [e1,e2,Int.mul_zero,Int.zero_mul];exact qaH _
  ·obtain ⟨s,rfl⟩:∃ s,t=s+1:=⟨t-1,ω⟩
   have nb:=ht.lo s ω;unfold sE at nb;exact afZ (u.lt (h.up s tl) bt) ω (u.le q ω) ω (h.abv s j tl hj)
theorem af3 (X g:Nat->Int):dJ X g 1 1 (fun _=>0) :=
 ⟨ω,rfl,rfl,fun i hi=>ω,fun i j hi=>ω⟩
def nY (c:Nat->Nat) (k n:Nat) (i:Nat):Nat:=if i=k then n else c i
theorem Wp (c:Nat->Nat) (k n:Nat):nY c k n k=n:=Ym rfl
theorem Wr {k:Nat} (h:i<k):nY c k n i=c i:=Yl ω
theorem dJ.lay (h:dJ X g n m c) (u:Up X n) (hx:X (n-1)<x) (ht:kL X g m c x (g n) t) :
  dJ (aG X n x) g (n+1) (t+2) (nY c (t+1) n):=by
 have tl:=ht.lt;have all:=h.touch u hx ht;have cl:∀ i,i<=t->nY c (t+1) n i=c i:=fun i hi=>Wr ω
 have cn:nY c (t+1) n (t+1)=n:=Wp _ _ _;have bd:∀ i,i<=t->c i<n:=fun i hi=>h.bd ω
 refine ⟨ω,by rw [cl 0 ω];exact h.first,by rw [show t+2-1=t+1 by omega,cn],fun i hi=>?_,fun i j hi hj=>?_⟩
 ·by_cases e:i=t
  ·subst e;rw [cn,cl _ ω];exact bd _ ω
  ·rw [cl i ω,cl (i+1) ω];exact h.up i ω
 ·by_cases e:i=t
  ·subst e
   rw [cn,cl _ ω,eF,bJ (bd i ω)];by_cases q:j=n
   ·subst q;rw [eF];exact qaH _
   ·rw [bJ ω]
    exact all j ω
  ·rw [cl i ω,cl (i+1) ω,bJ (bd i ω),bJ (bd (i+1) ω)]
   by_cases q:j=n
   ·subst q
    rw [eF];have nb:=ht.lo i ω;unfold sE at nb;omega
   ·rw [bJ ω]
    exact h.abv i j ω ω
structure gK (e:Int) (f:Nat->Int) (S:Nat->Nat->Prop) (a b:Int):Prop where
 a0:0<=a
 b1:1<=b
 bound:∀ i j,S i j->((j:Int)-i-2*e)*b<=a*(f j-f i)
 att:a=0\/∃ i j,S i j/\0<(j:Int)-i-2*e/\((j:Int)-i-2*e)*b=a*(f j-f i)
def gL (e:Int) (f:Nat->Int) (S:Nat->Nat->Prop) (a b:Int):Prop :=
 (a=1/\b=0/\∀ i j,¬ S i j) \/
 (1<=a/\1<=b/\(∀ i j,S i j->a*(f j-f i)<=((j:Int)-i+2*e)*b)/\∃ i j,S i j/\a*(f j-f i)=((j:Int)-i+2*e)*b)
variable {e a b:Int} {f:Nat->Int} {S:Nat->Nat->Prop}
theorem gK.red {c g:Int} (h:gK e f S a b) (g0:0<g) (ea:c*g=a) (eb:d*g=b) (hg:Int.gcd c d=1):bM e f S c d:=by
 have c0:0<=c:=by
  rcases Int.lt_or_le c 0 with q | q
  ·have:=Int.mul_neg_of_neg_of_pos q g0
   have:=h.a0
   omega
  ·exact q
 have d1:1<=d:=by
  rcases Int.lt_or_le 0 d with q | q
  ·omega
  ·have:=Int.mul_nonpos_of_nonpos_of_nonneg q (show 0<=g by omega)
   have:=h.b1
   omega
 refine ⟨c0,d1,hg,fun i j s=>?_,?_⟩
 ·have:=h.bound i j s
  rw [<-ea,<-eb,<-Int.mul_assoc,qal c g] at this;exact qaX this g0
 ·rcases h.att with q | ⟨i,j,s,m0,r⟩
  ·left
   rcases Int.mul_eq_zero.1 (ea.trans q) with z | z
   ·exact z
   ·omega
  ·refine .inr ⟨i,j,s,m0,?_⟩
   rw [<-ea,<-eb,<-Int.mul_assoc,qal c g] at r;exact Int.eq_of_mul_eq_mul_right ω r
theorem gL.red {c g:Int} (h:gL e f S a b) (hb:b≠0) (g0:0<g) (ea:c*g=a) (eb:d*g=b) (hg:Int.gcd c d=1):dG e f S c d:=by
 rcases h with ⟨_,q,_⟩ | ⟨a1,b1,bound,i,j,s,r⟩
 ·exact absurd q hb
 ·have c1:1<=c:=by
   rcases Int.lt_or_le 0 c with q | q
   ·omega
   ·have:=Int.mul_nonpos_of_nonpos_of_nonneg q (show 0<=g by omega)
    omega
  have d1:1<=d:=by
   rcases Int.lt_or_le 0 d with q | q
   ·omega
   ·have:=Int.mul_nonpos_of_nonpos_of_nonneg q (show 0<=g by omega)
    omega
  refine .inr ⟨c1,d1,hg,fun i j s=>?_,i,j,s,?_⟩
  ·have:=bound i j s
   rw [<-ea,<-eb,<-Int.mul_assoc,qal c g] at this;exact qaX this g0
  ·rw [<-ea,<-eb,<-Int.mul_assoc,qal c g] at r
   exact Int.eq_of_mul_eq_mul_right ω r
theorem Ws (a0:0<=a) (b1:1<=b):∃ c d g:Int,0<g/\c*g=a/\d*g=b/\Int.gcd c d=1:=by have hg:0<Int.gcd a b:=Int.gcd_pos_of_ne_zero_right _ ω;exact ⟨a/Int.gcd a b,b/Int.gcd a b,Int.gcd a b,ω,Int.ediv_mul_cancel (Int.gcd_dvd_left _ _),Int.ediv_mul_cancel (Int.gcd_dvd_right _ _),Int.gcd_ediv_gcd_ediv_gcd hg⟩
theorem af4 {c:Int} (he:0<=e) (p:qI f S) (h:gK e f S a b) (k:gL e f S c d) (hd:d≠0):a*d<=c*b↔aY e f S:=by
 have b1:=h.b1;obtain ⟨a',b',g,g0,ea,eb,hg⟩:=Ws h.a0 h.b1;have k1:1<=c/\1<=d:=by
  rcases k with ⟨_,q,_⟩ | ⟨c1,d1,_⟩
  ·exact absurd q hd
  ·exact ⟨c1,d1⟩
 obtain ⟨c',d',g',Wt,ec,ed,tg⟩:=Ws (show 0<=c by omega) k1.2
 have H:=h.red g0 ea eb hg;have K:=k.red hd Wt ec ed tg;rw [<-MU he p H K];have d1:1<=d':=by
  rcases Int.lt_or_le 0 d' with q | q
  ·omega
  ·have:=Int.mul_nonpos_of_nonpos_of_nonneg q (show 0<=g' by omega)
   omega
 have Us:=H.b1;have e1:a*d=a'*d'*(g*g'):=by rw [<-ea,<-ed,mR]
 have e2:c*b=c'*b'*(g*g'):=by rw [<-ec,<-eb,mR,qaa g' g]
 have gg:0<g*g':=Int.mul_pos g0 Wt;have key:a*d<=c*b↔a'*d'<=c'*b':=by rw [e1,e2];exact ⟨fun q=>qaX q gg,fun q=>qae q ω⟩
 rw [key];unfold fN;constructor
 ·intro q r
  rcases r with ⟨_,r⟩ | ⟨_,_,r⟩
  ·omega
  ·omega
 ·intro q
  rcases Int.lt_or_le (c'*b') (a'*d') with r | r
  ·exact absurd (.inr ⟨ω,ω,r⟩) q
  ·exact r
theorem gK.congr {T:Nat->Nat->Prop} (h:gK e f S a b) (st:∀ i j,S i j↔T i j) (q:∀ i j,S i j->f j-f i=g j-g i):gK e g T a b :=
 ⟨h.a0,h.b1,fun i j s=>by rw [<-q i j ((st i j).2 s)];exact h.bound i j ((st i j).2 s),by
  rcases h.att with h0 | ⟨i,j,s,m,r⟩
  ·exact .inl h0
  ·exact .inr ⟨i,j,(st i j).1 s,m,by rw [<-q i j s];exact r⟩⟩
theorem gL.congr {T:Nat->Nat->Prop} (h:gL e f S a b) (st:∀ i j,S i j↔T i j) (q:∀ i j,S i j->f j-f i=g j-g i):gL e g T a b:=by
 rcases h with ⟨h1,h2,no⟩ | ⟨a1,b1,hb,i,j,s,r⟩
 ·exact .inl ⟨h1,h2,fun i j s=>no i j ((st i j).2 s)⟩
 ·exact .inr ⟨a1,b1,fun i j s=>by rw [<-q i j ((st i j).2 s)];exact hb i j ((st i j).2 s),i,j,(st i j).1 s,by rw [<-q i j s];exact r⟩
variable {p:Nat}
theorem DZ {q:Nat} (s:aC (n+1) p q):aC n p q\/(p<n/\q=n):=by unfold aC at *;omega
variable {s:Int}
theorem af5 {r:Int} (u:Up (aG f n x) (n+1)) (h:gK e f (aC n) a b) (ht:t<n) (er:r=(n:Int)-t-2*e) (es:s=x-f t)
  (hb:∀ j,j<n->((n:Int)-j-2*e)*s<=r*(x-f j)) :
  (r*b<a*s->gK e (aG f n x) (aC (n+1)) a b)/\(¬ r*b<a*s->gK e (aG f n x) (aC (n+1)) r s):=by
 have s1:1<=s:=by
  have:=u.lt ht (show n<n+1 by omega)
  rw [eF,bJ ht] at this;omega
 have a0:=h.a0;have b1:=h.b1;have up:∀ j,j<n->0<x-f j:=fun j hj=>by
  have:=u.lt hj (show n<n+1 by omega)
  rw [eF,bJ hj] at this;omega
 have old:∀ i j,aC n i j->0<f j-f i:=fun i j q=>by
  have q1:=q.1;have q2:=q.2;have:=u.lt q1 (show j<n+1 by omega)
  rw [bJ q2,bJ ω] at this;omega
 constructor
 ·intro ar
  refine ⟨h.a0,h.b1,fun i j q=>?_,?_⟩
  ·rcases DZ q with q | ⟨q,rfl⟩
   ·rw [bJ q.2,bJ (by have:=q.1;have:=q.2;omega)]
    exact h.bound i j q
   ·rw [eF,bJ q]
    have h1:=hb i q;have D:=up i q;have m1:((j:Int)-i-2*e)*s*b<=r*(x-f i)*b:=qae h1 ω;have m2:r*b*(x-f i)<=a*s*(x-f i):=qae ω ω;rw [qal _ s b,qal r _ b] at m1;rw [qal a s] at m2;exact qaX (Int.le_trans m1 m2) ω
  ·rcases h.att with q | ⟨i,j,q,m0,eq⟩
   ·exact .inl q
   ·refine .inr ⟨i,j,⟨q.1,by have:=q.2;omega⟩,m0,?_⟩
    rw [bJ q.2,bJ (by have:=q.1;have:=q.2;omega)]
    exact eq
 ·intro xU
  have r0:0<=r:=by
   rcases Int.lt_or_le r 0 with q | q
   ·have h1:=Int.mul_neg_of_neg_of_pos q (show 0<b by omega)
    have h2:0<=a*s:=qas a0 ω;omega
   ·exact q
  refine ⟨r0,s1,fun i j q=>?_,?_⟩
  ·rcases DZ q with q | ⟨q,rfl⟩
   ·rw [bJ q.2,bJ (by have:=q.1;have:=q.2;omega)]
    have h1:=h.bound i j q;have D:=old i j q;have m1:((j:Int)-i-2*e)*b*s<=a*(f j-f i)*s:=qae h1 ω;have m2:a*s*(f j-f i)<=r*b*(f j-f i):=qae ω ω;rw [qal _ b s,qal a _ s] at m1;rw [qal r b] at m2;exact qaX (Int.le_trans m1 m2) ω
   ·rw [eF,bJ q]
    exact hb i q
  ·by_cases z:r=0
   ·exact .inl z
   ·refine .inr ⟨t,n,⟨ht,ω⟩,ω,?_⟩
    rw [eF,bJ ht,<-er,<-es]
theorem af6 {r:Int} (he:0<=e) (u:Up (aG f n x) (n+1)) (h:gL e f (aC n) a b) (ht:t<n) (er:r=(n:Int)-t+2*e) (es:s=x-f t)
  (hb:∀ j,j<n->r*(x-f j)<=((n:Int)-j+2*e)*s) :
  (a*s<r*b->gL e (aG f n x) (aC (n+1)) a b)/\(¬ a*s<r*b->gL e (aG f n x) (aC (n+1)) r s):=by
 have s1:1<=s:=by
  have:=u.lt ht (show n<n+1 by omega)
  rw [eF,bJ ht] at this;omega
 have up:∀ j,j<n->0<x-f j:=fun j hj=>by
  have:=u.lt hj (show n<n+1 by omega)
  rw [eF,bJ hj] at this;omega
 have old:∀ i j,aC n i j->0<f j-f i:=fun i j q=>by
  have q1:=q.1;have q2:=q.2;have:=u.lt q1 (show j<n+1 by omega)
  rw [bJ q2,bJ ω] at this;omega
 have r1:1<=r:=ω;constructor
 ·intro ar
  rcases h with ⟨rfl,rfl,_⟩ | ⟨a1,b1,bound,i,j,q,eq⟩
  ·omega
  ·refine .inr ⟨a1,b1,fun i j q=>?_,i,j,⟨q.1,by have:=q.2;omega⟩,?_⟩
   ·rcases DZ q with q | ⟨q,rfl⟩
    ·rw [bJ q.2,bJ (by have:=q.1;have:=q.2;omega)]
     exact bound i j q
    ·rw [eF,bJ q]
     have h1:=hb i q;have D:=up i q;have m1:r*(x-f i)*b<=((j:Int)-i+2*e)*s*b:=qae h1 ω;have m2:a*s*(x-f i)<=r*b*(x-f i):=qae ω ω;rw [qal _ s b,qal r _ b] at m1;rw [qal a s] at m2;exact qaX (Int.le_trans m2 m1) ω
   ·rw [bJ q.2,bJ (by have:=q.1;have:=q.2;omega)]
    exact eq
 ·intro xU
  refine .inr ⟨r1,s1,fun i j q=>?_,t,n,⟨ht,ω⟩,?_⟩
  ·rcases DZ q with q | ⟨q,rfl⟩
   ·rcases h with ⟨_,_,no⟩ | ⟨a1,b1,bound,_⟩
    ·exact absurd q (no i j)
    ·rw [bJ q.2,bJ (by have:=q.1;have:=q.2;omega)]
     have h1:=bound i j q;have D:=old i j q;have m1:a*(f j-f i)*s<=((j:Int)-i+2*e)*b*s:=qae h1 ω;have m2:r*b*(f j-f i)<=a*s*(f j-f i):=qae ω ω;rw [qal _ b s,qal a _ s] at m1;rw [qal r b] at m2;exact qaX (Int.le_trans m2 m1) ω
   ·rw [eF,bJ q]
    exact hb i q
  ·rw [eF,bJ ht,<-er,<-es]
theorem af7 (h:dJ f (fun j=>1*(j:Int)) n m c) (u:Up f n) (hx:f (n-1)<x) (ht:kL f (fun j=>1*(j:Int)) m c x (1*((n:Int)-2*e)) t) :
  ∀ j,j<n->((n:Int)-j-2*e)*(x-f (c t))<=((n:Int)-c t-2*e)*(x-f j):=by
 intro j hj;have:=h.touch u hx ht j hj;simp only [Int.one_mul] at this;have e1:((n:Int)-c t-2*e)*(x-f j)=((n:Int)-c t-2*e)*(x-f (c t))-((n:Int)-2*e-c t)*(f j-f (c t)):=by rw [show (n:Int)-2*e-c t=(n:Int)-c t-2*e by omega,<-Int.mul_sub];congr 1;omega
 have e2:((n:Int)-j-2*e)*(x-f (c t))=((n:Int)-c t-2*e)*(x-f (c t))-((j:Int)-c t)*(x-f (c t)):=by rw [<-Int.sub_mul];congr 1;omega
 omega
theorem af8 (h:dJ f (fun j=>-1*(j:Int)) n m c) (u:Up f n) (hx:f (n-1)<x) (ht:kL f (fun j=>-1*(j:Int)) m c x (-1*((n:Int)+2*e)) t) :
  ∀ j,j<n->((n:Int)-c t+2*e)*(x-f j)<=((n:Int)-j+2*e)*(x-f (c t)):=by
 intro j hj;have:=h.touch u hx ht j hj;have q1:(-1*((n:Int)+2*e) - -1*(c t:Int))=-((n:Int)-c t+2*e):=ω;have q2:(-1*(j:Int) - -1*(c t:Int))=-((j:Int)-c t):=ω;rw [q1,q2,Int.neg_mul,Int.neg_mul] at this;have e1:((n:Int)-c t+2*e)*(x-f j)=((n:Int)-c t+2*e)*(x-f (c t))-((n:Int)-c t+2*e)*(f j-f (c t)):=by rw [<-Int.mul_sub];congr 1;omega
 have e2:((n:Int)-j+2*e)*(x-f (c t))=((n:Int)-c t+2*e)*(x-f (c t))-((j:Int)-c t)*(x-f (c t)):=by rw [<-Int.sub_mul];congr 1;omega
 omega
open Go.RowKit Go.Shelf
theorem Wu (x y:Int) (hx:0<=x) (jE:x<18446744073709551616) (hy:0<=y) (iB:y<18446744073709551616) (w:World) :
  Calls prog 243 #[BY x,BY y] w fun e w'=>e=π #[BY (x*y/18446744073709551616),BY (x*y%18446744073709551616)]/\w'=w:=by
 obtain ⟨x,rfl⟩:=Int.eq_ofNat_of_zero_le hx;obtain ⟨y,rfl⟩:=Int.eq_ofNat_of_zero_le hy;have:=Tryz.bits_Mul64 x y ω ω w;simpa using this
theorem Ky (a b:Int) (h0:-9223372036854775808<=a) (h1:a<9223372036854775808) (b0:0<=b) (b1:b<18446744073709551616) (w:World) :
  Calls prog 232 #[By a,BY b] w fun e w'=>e=χ (.agg #[By (ay (a*b)),BY (az (a*b))])/\Gk 1 w w':=by
 obtain ⟨c1,c2⟩:=Ax a;by_cases hn:a<0
 ·go_enter func232,ntmps232
  go_wp2_with (go_at_call 243;refine (Wu _ _ c1 c2 b0 b1 _).mono ?_;rintro e w' ⟨rfl,rfl⟩)
  simp [bodyPost,results,results232,go_sem]
  refine ⟨⟨ZC a b h0 h1 hn,ZB a b⟩,(Gb.refl _).alloc _ _,ε⟩
 ·go_enter func232,ntmps232
  go_wp2_with (go_at_call 243;refine (Wu a b ω ω b0 b1 _).mono ?_;rintro e w' ⟨rfl,rfl⟩)
  simp [bodyPost,results,results232,go_sem]
  refine ⟨⟨ZD a b,rfl⟩,(Gb.refl _).alloc _ _,ε⟩
theorem Wv (x y:Int) (w:World) :
  Calls prog 233 #[.agg #[By (ay (x)),BY (az (x))],.agg #[By (ay (y)),BY (az (y))]] w fun e w'=>e=χ (By (bN (sv x) (sv y)))/\Gk 2 w w':=by
 have i1:=ZE x y;have i2:=ZF x y;by_cases g1:ay x=ay y
 ·by_cases g2:az x=az y
  ·have e:bN (sv x) (sv y)=0:=(by unfold bN;rw [Yl ω,Ym ω]);rw [e,g1,g2];clear i1 i2 e;go_enter func233,ntmps233;go_wp2;go_ret;exact ⟨rfl,((Gb.refl _).alloc _ _).alloc _ _,ε⟩
  ·have f1:(az x == az y)=false:=(by simpa using g2);by_cases g3:az x<az y
   ·have e:bN (sv x) (sv y)=-1:=(by unfold bN;rw [Ym ω]);rw [e,g1];clear i1 i2 e;go_enter func233,ntmps233;go_wp2;go_ret;exact ⟨rfl,((Gb.refl _).alloc _ _).alloc _ _,ε⟩
   ·have e:bN (sv x) (sv y)=1:=(by unfold bN;rw [Yl ω,Yl ω]);rw [e,g1];clear i1 i2 e;go_enter func233,ntmps233;go_wp2;go_ret;exact ⟨rfl,((Gb.refl _).alloc _ _).alloc _ _,ε⟩
 ·have f1:(ay x == ay y)=false:=by simpa using g1
  by_cases g3:ay x<ay y
  ·have e:bN (sv x) (sv y)=-1:=(by unfold bN;rw [Ym ω]);rw [e];clear i1 i2 e;go_enter func233,ntmps233;go_wp2;go_ret;exact ⟨rfl,((Gb.refl _).alloc _ _).alloc _ _,ε⟩
  ·have e:bN (sv x) (sv y)=1:=(by unfold bN;rw [Yl ω,Yl ω]);rw [e];clear i1 i2 e;go_enter func233,ntmps233;go_wp2;go_ret;exact ⟨rfl,((Gb.refl _).alloc _ _).alloc _ _,ε⟩
theorem af9 (a b:Nat) (ha:a<18446744073709551616) (hb:b<18446744073709551616) (w:World) :
  Calls prog 240 #[BY a,BY b] w fun e w'=>e=χ (BY (Nat.gcd a b:Nat))/\w'=w:=by
 go_enter func240,ntmps240;go_wp2;go_loop [0,1] (fun p q=>∃ c d:Nat,p=BY c/\q=BY d/\c<18446744073709551616/\d<18446744073709551616/\ag (Nat.gcd c d=Nat.gcd a b)) (fun p _=>(intOf p).toNat)
 case atStart=>exact ⟨a,b,rfl,rfl,ha,hb,rfl⟩
 case round =>
  obtain ⟨c,d,rfl,rfl,hc,hd,hg⟩:=hrel;by_cases h:c=0
  ·have h1:((c:Int) == 0)=true:=(by simp;omega);have e:ag (a.gcd b=d):=by
    have:=hg.o
    rw [h,Nat.gcd_zero_left] at this;exact this.symm
   clear hg h;go_wp2;go_ret;exact ⟨by rw [e.o];rfl,rfl⟩
  ·have h1:((c:Int) == 0)=false:=(by simp;omega);have h2:(d:Int)%c=((d%c:Nat):Int):=(Int.natCast_emod d c).symm;have h3:d%c<c:=Nat.mod_lt _ ω;go_wp2;exact ⟨⟨d%c,c,by first | rfl | rw [h2],rfl,ω,hc,show _=_ by rw [<-hg.o];exact (Nat.gcd_rec c d).symm⟩,by simp [intOf];omega⟩
def Kz (num den:Nat):Value:=.tuple #[.agg #[BY ((num/num.gcd den:Nat):Int),BY ((den/num.gcd den:Nat):Int)],By 0]
theorem af' (num den:Nat) (hn:num<18446744073709551616) (hd:den<18446744073709551616) (h0:0<den) (w:World) :
  Calls prog 229 #[BY num,BY den] w fun e w'=>e=χ (Kz num den)/\Gb w w':=by
 have hg:0<num.gcd den:=Nat.gcd_pos_of_pos_right _ h0;have h1:((den:Int) == 0)=false:=by simp;omega
 have h2:((num.gcd den:Int) == 0)=false:=by simp;omega
 have e1:(num:Int)/(num.gcd den:Nat)=((num/num.gcd den:Nat):Int):=(Int.natCast_ediv _ _).symm;have e2:(den:Int)/(num.gcd den:Nat)=((den/num.gcd den:Nat):Int):=(Int.natCast_ediv _ _).symm;have b1:num/num.gcd den<18446744073709551616:=Nat.lt_of_le_of_lt (Nat.div_le_self _ _) hn;have b2:den/num.gcd den<18446744073709551616:=Nat.lt_of_le_of_lt (Nat.div_le_self _ _) hd;unfold Kz;generalize num/num.gcd den=a at *;generalize den/num.gcd den=b at *;generalize hG:num.gcd den=G at *;go_enter func229,ntmps229;go_wp2_with (go_at_call 240;refine (af9 num den hn hd _).mono ?_;rw [hG];rintro e w' ⟨rfl,rfl⟩);go_region
 all_goals
  go_wp2
  refine bodyPost_ret (v:=.tuple #[.agg #[BY a,BY b],By 0]) (by simp [results,results229,go_sem]) rfl ⟨rfl,((Gb.refl w).alloc _ _).drew⟩
theorem Ww (a0:-100000000<=a) (a1:a<=100000000) (b0:0<=b) (b1:b<18446744073709551616):-170141183460469231731687303715884105728<=a*b/\a*b<170141183460469231731687303715884105728:=by have h1:a*b<=100000000*b:=qae a1 b0;have h2:-100000000*b<=a*b:=qae a0 b0;omega
theorem D6 (a b c d:Int) (a0:-100000000<=a) (a1:a<=100000000) (b0:0<=b) (b1:b<18446744073709551616) (c0:-100000000<=c) (c1:c<=100000000) (d0:0<=d) (d1:d<18446744073709551616) (w:World) :
  Calls prog 227 #[.agg #[By a,BY b],.agg #[By c,BY d]] w fun e w'=>e=χ (By (bN (a*d) (c*b)))/\Gw w w':=by
 obtain ⟨p1,p2⟩:=Ww a0 a1 d0 d1;obtain ⟨q1,q2⟩:=Ww c0 c1 b0 b1;have T1:ag (∀ w,Calls prog 232 #[By a,BY d] w fun e w'=>e=χ (.agg #[By (ay (a*d)),BY (az (a*d))])/\Gk 1 w w'):=fun w=>Ky a d ω ω d0 d1 w
 have T2:ag (∀ w,Calls prog 232 #[By c,BY b] w fun e w'=>e=χ (.agg #[By (ay (c*b)),BY (az (c*b))])/\Gk 1 w w'):=fun w=>Ky c b ω ω b0 b1 w
 have T3:ag (∀ w,Calls prog 233 #[.agg #[By (ay (a*d)),BY (az (a*d))],.agg #[By (ay (c*b)),BY (az (c*b))]] w fun e w'=>e=χ (By (bN (a*d) (c*b)))/\Gk 2 w w'):=by
  show ∀ w,Calls prog 233 #[.agg #[By (ay (a*d)),BY (az (a*d))],.agg #[By (ay (c*b)),BY (az (c*b))]] w fun e w'=>e=χ (By (bN (a*d) (c*b)))/\Gk 2 w w'
  intro w;have:=Wv (a*d) (c*b) w;rw [oi _ p1 p2,oi _ q1 q2] at this;exact this
 clear p1 p2 q1 q2;generalize a*d=ad at T1 T3 ⊢;generalize c*b=cb at T2 T3 ⊢;generalize bN ad cb=r at T3 ⊢;have GG:ag (Gw w ((w.alloc (.cells #[By a,BY b] 258)).alloc (.cells #[By c,BY d] 258))):=((Gw.refl w).alloc _ _).alloc _ _;have N:∀ W:World,Nonempty (GW W):=GW.some;go_enter func227,ntmps227;go_wp2_with fail;have k0:=GW.cell (W:=(w.alloc (.cells #[By a,BY b] 258)).alloc (.cells #[By c,BY d] 258)) (b:=w.heap.size) (o:=0) (v:=By a) ι ζ;have k1:=GW.cell (W:=(w.alloc (.cells #[By a,BY b] 258)).alloc (.cells #[By c,BY d] 258)) (b:=w.heap.size) (o:=1) (v:=BY b) ι ζ;have k2:=GW.cell (W:=(w.alloc (.cells #[By a,BY b] 258)).alloc (.cells #[By c,BY d] 258)) (b:=w.heap.size+1) (o:=0) (v:=By c) ι ε;have k3:=GW.cell (W:=(w.alloc (.cells #[By a,BY b] 258)).alloc (.cells #[By c,BY d] 258)) (b:=w.heap.size+1) (o:=1) (v:=BY d) ι ε;have NN:=N ((w.alloc (.cells #[By a,BY b] 258)).alloc (.cells #[By c,BY d] 258));refine Zd η η ?_
 repeat (go_big_quiet_step (fail))
 go_big_quiet_want;go_big_quiet_op
 go_big_quiet_call (exact Fk (T1.o _))
 repeat (go_big_quiet_step (fail))
 go_big_quiet_want;go_big_quiet_op
 go_big_quiet_call (exact Fk (T2.o _))
 repeat (go_big_quiet_step (fail))
 go_big_quiet_want;go_big_quiet_op
 go_big_quiet_call (exact Fk (T3.o _))
 repeat (go_big_quiet_step (fail))
 refine wpQuiet_nil ?_;rintro _ ⟨g,rfl⟩;go_wp2;go_ret;exact ⟨rfl,GG.o.trans g.2.gw⟩
theorem Ea (xa ya xb yb:Int) (KD:0<=xa) (hx:xa<xb) (Wx:xb<18446744073709551616) (Wy:-100000000<=ya) (ya1:ya<=100000000) (Jp:-100000000<=yb) (yb1:yb<=100000000) (w:World) :
  Calls prog 225 #[.agg #[BY xa,By ya],.agg #[BY xb,By yb]] w fun e w'=>e=χ (.agg #[By (yb-ya),BY (xb-xa)])/\Gw w w':=by
 have e1:IntKind.u64.wrap (xb-xa)=xb-xa:=by rw [qao];omega
 have e2:IntKind.i64.wrap (yb-ya)=yb-ya:=by rw [Δ];omega
 go_enter func225,ntmps225;go_wp2;refine bodyPost_ret (v:=.agg #[By (yb-ya),BY (xb-xa)]) (by simp [results,results225,go_sem]) rfl ⟨rfl,?_⟩
 first
  | exact ((((Gw.refl w).alloc _ _).alloc _ _).alloc _ _)
  | exact (((((Gw.refl w).alloc _ _).alloc _ _).alloc _ _).setCell ε _).setCell ε _
theorem aga (a b:Int) (a0:0<=a) (a1:a<=100000000) (b0:0<b) (b1:b<18446744073709551616) (w:World) :
  Calls prog 215 #[.agg #[By a,BY b]] w fun e w'=>(∃ c d g:Int,e=χ (.agg #[BY c,BY d])/\0<g/\c*g=a/\d*g=b/\Int.gcd c d=1)/\Gw w w':=by
 obtain ⟨a,rfl⟩:=Int.eq_ofNat_of_zero_le a0;obtain ⟨b,rfl⟩:=Int.eq_ofNat_of_zero_le (show 0<=b by omega)
 have hg:0<a.gcd b:=Nat.gcd_pos_of_pos_right _ ω;have aD:ag (∃ g:Int,0<g/\((a/a.gcd b:Nat):Int)*g=a/\((b/a.gcd b:Nat):Int)*g=b/\Int.gcd ((a/a.gcd b:Nat):Int) ((b/a.gcd b:Nat):Int)=1):=by
  refine ⟨(a.gcd b:Nat),ω,?_,?_,?_⟩
  ·rw [<-Int.natCast_mul,Nat.div_mul_cancel (Nat.gcd_dvd_left a b)]
  ·rw [<-Int.natCast_mul,Nat.div_mul_cancel (Nat.gcd_dvd_right a b)]
  ·have:=Int.gcd_ediv_gcd_ediv_gcd (i:=(a:Int)) (j:=(b:Int)) (by simpa using hg)
   simpa using this
 have wx:IntKind.u64.wrap (a:Int)=a:=by rw [qao];omega
 have L:=af' a b ω ω ω;have LL:ag _:=L;clear L hg;unfold Kz at LL;generalize ((a/a.gcd b:Nat):Int)=c at LL aD;generalize ((b/a.gcd b:Nat):Int)=d at LL aD;go_enter func215,ntmps215;go_wp2_with fail;refine (LL.o _).mono ?_;rintro e w1 ⟨rfl,g1⟩;have X:=(Bx.new (w.alloc (.cells #[By a,BY b] 258)) 227 (BY 0) (BY 0)).gw g1.gw;have X':ag (Bx w1 (w.heap.size+1) 227 (BY 0) (BY 0)):=X.at ε;have x0:=X'.o.c0;have x1:=X'.o.c1;have x2:=X'.o.fz 0;have x3:=X'.o.fz 1;have G1:ag (Gw w w1):=(((Gw.refl w).alloc _ _).alloc _ _).trans g1.gw;have hl:=X'.o.lt;clear X g1;go_wp2_with fail;have Y:=((X'.o.set (BY c) (BY d)).alloc (.cells #[BY c,BY d] 227));have y0:=Y.c0;have y1:=Y.c1;clear x0 x1 x2 x3;obtain ⟨g,f1,f2,f3,f4⟩:=aD.o;refine bodyPost_ret (v:=.agg #[BY c,BY d]) (by simp [results,results215,go_sem,y0,y1]) rfl ⟨⟨c,d,g,rfl,f1,f2,f3,f4⟩,?_⟩
 exact ((G1.o.setCell ε _).setCell ε _).alloc _ _
open Go.RowKit
theorem agb (cb:Array Value) (n:Nat) (p:Nat->Bool) (w:World) (cF:n<1000000000)
  (hf:∀ W,Gw w W->∀ i:Nat,i<n->Calls prog 239 (#[By i]++cb) W fun e w'=>e=χ (.bool (p i))/\Gw W w')
  (Wz:∀ a b,a<=b->b<n->p a=true->p b=true) :
  Calls prog 238 #[By n,.func (.func 239) #[] cb] w fun e w'=>(∃ t:Nat,e=χ (By t)/\t<=n/\(∀ i,i<t->p i=false)/\(∀ i,t<=i->i<n->p i=true))/\Gw w w':=by
 have HF:ag _:=hf;have M:ag _:=Wz;clear hf Wz;go_enter func238,ntmps238;go_wp2;go_loopg [5,6] n (fun kx s5 s6 wr=>∃ (lo hi:Nat),s5=By lo/\s6=By hi/\lo<=hi/\hi<=n/\hi-lo<=kx/\ag (Gw w wr) /\
  ag ((∀ t,t<lo->p t=false)/\(∀ t,hi<=t->t<n->p t=true)))
 case atStart=>exact ⟨0,n,rfl,rfl,Γ _,Yk _,ω,(show ag _ from Gw.refl w),(show ag _ from ⟨fun t ht=>absurd ht (Nat.not_lt_zero _),fun t h1 h2=>ω⟩)⟩
 case round =>
  obtain ⟨lo,hi,rfl,rfl,hlh,jS,hg,G,I⟩:=hrel;by_cases ar:lo<hi
  ·have hc:=HF.o wr G.o ((lo+hi)/2) ω
   rw [show (((lo+hi)/2:Nat):Int)=((lo:Int)+(hi:Int))/2 by omega] at hc
   cases hp:p ((lo+hi)/2)<;>rw [hp] at hc
   ·have HP:ag (p ((lo+hi)/2)=false):=hp
    clear hp;go_wp2_with fail;refine hc.mono ?_;rintro e w1 ⟨rfl,g1⟩;have G1:ag _:=G.o.trans g1;clear g1;go_wp2_with fail;go_roundg (hi-((lo+hi)/2+1))
    case measure=>omega
    case rel =>
     have I2:ag ((∀ t,t<(lo+hi)/2+1->p t=false)/\(∀ t,hi<=t->t<n->p t=true)):=⟨fun t ht=>(by
      cases h:p t with
      | false=>rfl
      | true=>have:=M.o t ((lo+hi)/2) ω ω h;rw [HP.o] at this;cases this),I.o.2⟩
     exact ⟨(lo+hi)/2+1,hi,by rw [show ((lo:Int)+(hi:Int))/2+1=(((lo+hi)/2+1:Nat):Int) by omega],rfl,ω,jS,Yk _,G1,I2⟩
   ·have HP:ag (p ((lo+hi)/2)=true):=hp
    clear hp;go_wp2_with fail;refine hc.mono ?_;rintro e w1 ⟨rfl,g1⟩;have G1:ag _:=G.o.trans g1;clear g1;go_wp2_with fail;go_roundg ((lo+hi)/2-lo)
    case measure=>omega
    case rel =>
     have I2:ag ((∀ t,t<lo->p t=false)/\(∀ t,(lo+hi)/2<=t->t<n->p t=true)):=⟨I.o.1,fun t ht KG=>M.o ((lo+hi)/2) t ht KG HP.o⟩
     exact ⟨lo,(lo+hi)/2,rfl,by rw [show ((lo:Int)+(hi:Int))/2=(((lo+hi)/2:Nat):Int) by omega],ω,ω,Yk _,G1,I2⟩
  ·obtain rfl:hi=lo:=by omega
   go_wp2
   go_ret
   exact ⟨⟨hi,rfl,jS,I.o.1,I.o.2⟩,G.o⟩
structure PS (w:World) (g m:Nat) (X Y:Nat->Int):Prop where
 lt:g<w.heap.size
 x:∀ i,i<m->w.cell? (φ g (i*2))=some (BY (X i))
 y:∀ i,i<m->w.cell? (φ g (i*2+1))=some (By (Y i))
theorem PS.gw {w w':World} {g:Nat} {Y:Nat->Int} (h:PS w g m X Y) (k:Gw w w'):PS w' g m X Y :=
 ⟨Θ h.lt k.size,fun i hi=>(k.cell _ _ h.lt).trans (h.x i hi),fun i hi=>(k.cell _ _ h.lt).trans (h.y i hi)⟩
structure Eb (w W:World) (a0 a1 b0 b1:Value):Prop where
 gw:Gw w W
 a0:W.cell? (φ w.heap.size 0)=some a0
 a1:W.cell? (φ w.heap.size 1)=some a1
 b0:W.cell? (φ (w.heap.size+1) 0)=some b0
 b1:W.cell? (φ (w.heap.size+1) 1)=some b1
 size:W.heap.size=w.heap.size+2
theorem WA (w:World) (t t':TypeId) (a0 a1 b0 b1:Value):Eb w ((w.alloc (.cells #[a0,a1] t)).alloc (.cells #[b0,b1] t')).drew a0 a1 b0 b1 :=
 ⟨(((Gw.refl w).alloc _ _).alloc _ _).drew,by simp [go_sem],by simp [go_sem],by simp [go_sem],by simp [go_sem],by simp [go_sem]⟩
theorem agc (u v:Int):-1<=bN u v/\bN u v<=1:=by
 unfold bN;split
 ·omega
 ·split<;>omega
theorem agd (p o g m cap bc bp:Nat) (s xa ya xb yb x y:Int) (i:Nat) (hi:i+1<m) (hm:m<100000000) (KD:0<=xa) (cN:xa<xb) (eM:xa<x) (Wx:xb<18446744073709551616) (x1:x<18446744073709551616)
  (Wy:-10000000<=ya) (ya1:ya<=10000000) (Jp:-10000000<=yb) (yb1:yb<=10000000) (y0:-10000000<=y) (y1:y<=10000000) (hs:s=1\/s=-1) (w:World)
  (l1:bc<w.heap.size) (l2:bp<w.heap.size) (l3:p<w.heap.size) (l4:g<w.heap.size)
  (h1:w.cell? (φ bc 0)=some (.pointer (some (φ p o)))) (h2:w.cell? (φ bp 0)=some (BY x)) (h3:w.cell? (φ bp 1)=some (By y))
  (h4:w.cell? (φ p o)=some (By s)) (h5:w.cell? (φ p (o+1))=some (ψ g 0 m cap))
  (k1:w.cell? (φ g (i*2))=some (BY xa)) (k2:w.cell? (φ g (i*2+1))=some (By ya))
  (k3:w.cell? (φ g ((i+1)*2))=some (BY xb)) (k4:w.cell? (φ g ((i+1)*2+1))=some (By yb)) :
  Calls prog 239 (#[By i]++#[IS bc,IS bp]) w fun e w'=>e=χ (.bool (decide (s*((y-ya)*(xb-xa))<=s*((yb-ya)*(x-xa)))))/\Gw w w':=by
 have B1:ag (∀ W,Calls prog 225 #[.agg #[BY xa,By ya],.agg #[BY x,By y]] W fun e w'=>e=χ (.agg #[By (y-ya),BY (x-xa)])/\Gw W w'):=fun W=>Ea xa ya x y KD eM x1 ω ω ω ω W
 have B2:ag (∀ W,Calls prog 225 #[.agg #[BY xa,By ya],.agg #[BY xb,By yb]] W fun e w'=>e=χ (.agg #[By (yb-ya),BY (xb-xa)])/\Gw W w'):=fun W=>Ea xa ya xb yb KD cN Wx ω ω ω ω W
 have B3:ag (∀ W,Calls prog 227 #[.agg #[By (y-ya),BY (x-xa)],.agg #[By (yb-ya),BY (xb-xa)]] W fun e w'=>e=χ (By (bN ((y-ya)*(xb-xa)) ((yb-ya)*(x-xa))))/\Gw W w'):=fun W=>D6 _ _ _ _ ω ω ω ω ω ω ω ω W
 have R:ag (decide (bN ((y-ya)*(xb-xa)) ((yb-ya)*(x-xa))*s<=0)=decide (s*((y-ya)*(xb-xa))<=s*((yb-ya)*(x-xa)))):=by
  show decide (bN ((y-ya)*(xb-xa)) ((yb-ya)*(x-xa))*s<=0)=decide (s*((y-ya)*(xb-xa))<=s*((yb-ya)*(x-xa)));generalize (y-ya)*(xb-xa)=u;generalize (yb-ya)*(x-xa)=v;unfold bN;rcases hs with rfl | rfl
  ·split
   ·simp;omega
   ·split
    ·simp;omega
    ·simp;omega
  ·split
   ·simp;omega
   ·split
    ·simp;omega
    ·simp;omega
 have CB:-1<=bN ((y-ya)*(xb-xa)) ((yb-ya)*(x-xa))/\bN ((y-ya)*(xb-xa)) ((yb-ya)*(x-xa))<=1:=agc _ _;generalize bN ((y-ya)*(xb-xa)) ((yb-ya)*(x-xa))=r at B3 R CB;have WR:IntKind.i64.wrap (r*s)=r*s:=by rw [Δ];rcases hs with rfl | rfl<;>omega
 rw [<-R.o];clear R;generalize y-ya=e1 at B1 B3;generalize x-xa=e2 at B1 B3;generalize yb-ya=e3 at B2 B3;generalize xb-xa=e4 at B2 B3;have jS:(i:Int)<m:=ω;have WB:(i:Int)+1<m:=ω;have hz:0<=(i:Int)+1:=ω;have zT:IntKind.i64.wrap ((i:Int)+1)=(i:Int)+1:=by rw [Δ];omega
 go_enter func239,ntmps239;go_wp2_with fail;go_region
 ·have T:=WA w 284 284 (BY xa) (By ya) (BY xb) (By yb)
  have T':ag _:=T;clear T;generalize ((w.alloc (.cells #[BY xa,By ya] 284)).alloc (.cells #[BY xb,By yb] 284)).drew=W at T' ⊢;have q0:=GX.cell T'.o.a0 (by rw [T'.o.size];omega)
  have q1:=GX.cell T'.o.a1 (by rw [T'.o.size];omega)
  have q2:=GX.cell T'.o.b0 (by rw [T'.o.size];omega)
  have q3:=GX.cell T'.o.b1 (by rw [T'.o.size];omega)
  have q4:=GX.cell ((T'.o.gw.cell bc 0 l1).trans h1) (by rw [T'.o.size];omega)
  have q5:=GX.cell ((T'.o.gw.cell bp 0 l2).trans h2) (by rw [T'.o.size];omega)
  have q6:=GX.cell ((T'.o.gw.cell bp 1 l2).trans h3) (by rw [T'.o.size];omega)
  have q7:=GX.cell ((T'.o.gw.cell p o l3).trans h4) (by rw [T'.o.size];omega)
  have N:=GX.some W;clear h1 h2 h3 h4 h5 k1 k2 k3 k4 jS WB zT hz;go_wp2_with fail;refine od η η ?_
  repeat (go_big_quiet_step (fail))
  go_big_quiet_want;go_big_quiet_op
  go_big_quiet_call (exact gO (B1.o _))
  repeat (go_big_quiet_step (fail))
  go_big_quiet_want;go_big_quiet_op
  go_big_quiet_call (exact gO (B2.o _))
  repeat (go_big_quiet_step (fail))
  go_big_quiet_want;go_big_quiet_op
  go_big_quiet_call (exact gO (B3.o _))
  repeat (go_big_quiet_step (fail))
  refine wpQuiet_nil ?_;rintro _ ⟨g,rfl⟩;go_wp2;go_ret;exact ⟨rfl,T'.o.gw.trans g.2⟩
 ·have T:=WA w 284 284 (BY xb) (By yb) (BY xa) (By ya)
  have T':ag _:=T;clear T;generalize ((w.alloc (.cells #[BY xb,By yb] 284)).alloc (.cells #[BY xa,By ya] 284)).drew=W at T' ⊢;have q0:=GX.cell T'.o.a0 (by rw [T'.o.size];omega)
  have q1:=GX.cell T'.o.a1 (by rw [T'.o.size];omega)
  have q2:=GX.cell T'.o.b0 (by rw [T'.o.size];omega)
  have q3:=GX.cell T'.o.b1 (by rw [T'.o.size];omega)
  have q4:=GX.cell ((T'.o.gw.cell bc 0 l1).trans h1) (by rw [T'.o.size];omega)
  have q5:=GX.cell ((T'.o.gw.cell bp 0 l2).trans h2) (by rw [T'.o.size];omega)
  have q6:=GX.cell ((T'.o.gw.cell bp 1 l2).trans h3) (by rw [T'.o.size];omega)
  have q7:=GX.cell ((T'.o.gw.cell p o l3).trans h4) (by rw [T'.o.size];omega)
  have N:=GX.some W;clear h1 h2 h3 h4 h5 k1 k2 k3 k4 jS WB zT hz;go_wp2_with fail;refine od η η ?_
  repeat (go_big_quiet_step (fail))
  go_big_quiet_want;go_big_quiet_op
  go_big_quiet_call (exact gO (B1.o _))
  repeat (go_big_quiet_step (fail))
  go_big_quiet_want;go_big_quiet_op
  go_big_quiet_call (exact gO (B2.o _))
  repeat (go_big_quiet_step (fail))
  go_big_quiet_want;go_big_quiet_op
  go_big_quiet_call (exact gO (B3.o _))
  repeat (go_big_quiet_step (fail))
  refine wpQuiet_nil ?_;rintro _ ⟨g,rfl⟩;go_wp2;go_ret;exact ⟨rfl,T'.o.gw.trans g.2⟩
structure CH (w:World) (p o g m cap:Nat) (s h:Int) (f:Nat->Int) (n:Nat) (c:Nat->Nat):Prop where
 lp:p<w.heap.size
 c0:w.cell? (φ p o)=some (By s)
 c1:w.cell? (φ p (o+1))=some (ψ g 0 m cap)
 ps:PS w g m (fun i=>f (c i)) (fun i=>(c i:Int)+h)
 ch:dJ f (fun j=>s*(j:Int)) n m c
variable {o cap:Nat} {h:Int}
theorem CH.gw {w w':World} {g:Nat} (k:CH w p o g m cap s h f n c) (G:Gw w w'):CH w' p o g m cap s h f n c :=
 ⟨Θ k.lp G.size,(G.cell _ _ k.lp).trans k.c0,(G.cell _ _ k.lp).trans k.c1,k.ps.gw G,k.ch⟩
structure KB (f:Nat->Int) (n:Nat):Prop where
 up:Up f n
 bd:∀ i,i<n->0<=f i/\f i<18446744073709551616
 len:n<=3000001
theorem WC {g:Nat} (kb:KB f n) (hs:s=1\/s=-1) (h0:-63<=h) (h1:h<=63) (x y:Int) (hx:f (n-1)<x) (x1:x<18446744073709551616) (y0:-10000000<=y) (y1:y<=10000000) (w:World) (k:CH w p o g m cap s h f n c) :
  Calls prog 228 #[.pointer (some (φ p o)),.agg #[BY x,By y]] w fun e w'=>(∃ t:Nat,e=χ (By t)/\kL f (fun j=>s*(j:Int)) m c x (s*(y-h)) t)/\Gw w w':=by
 have mp:=k.ch.pos;have ml:=k.ch.len;have nl:=kb.len;obtain ⟨q,hq⟩:∃ q:Nat,m=q+1:=⟨m-1,ω⟩;subst hq;have W0:Gw w ((w.alloc (.cells #[.pointer (some (φ p o))] 297)).alloc (.cells #[BY x,By y] 284)):=((Gw.refl w).alloc _ _).alloc _ _;have SE:ag (Calls prog 238 #[By q,.func (.func 239) #[] #[IS (w.heap.size),IS (w.heap.size+1)]] ((w.alloc (.cells #[.pointer (some (φ p o))] 297)).alloc (.cells #[BY x,By y] 284)) fun e w'=>(∃ t:Nat,e=χ (By t)/\kL f (fun j=>s*(j:Int)) (q+1) c x (s*(y-h)) t)/\Gw w w'):=by
  have Ec:∀ i,i<q->(decide (s*((y-((c i:Int)+h))*(f (c (i+1))-f (c i)))<=s*((((c (i+1):Nat):Int)+h-((c i:Int)+h))*(x-f (c i))))=true↔sE f (fun j=>s*(j:Int)) c x (s*(y-h)) i):=by intro i hi;unfold sE;have e1:s*(y-h)-s*(c i:Int)=s*(y-((c i:Int)+h)):=(by rw [<-Int.mul_sub];congr 1;omega);have e2:s*((c (i+1):Nat):Int)-s*(c i:Int)=s*(((c (i+1):Nat):Int)+h-((c i:Int)+h)):=(by rw [<-Int.mul_sub];congr 1;omega);rw [decide_eq_true_iff];show _↔(s*(y-h)-s*(c i:Int))*_<=(s*((c (i+1):Nat):Int)-s*(c i:Int))*_;rw [e1,e2,qaG,qaG]
  refine (agb _ q (fun i=>decide (s*((y-((c i:Int)+h))*(f (c (i+1))-f (c i)))<=s*((((c (i+1):Nat):Int)+h-((c i:Int)+h))*(x-f (c i))))) _ ω (fun W GW i hi=>?_) (fun a b cN hb ha=>?_)).mono ?_
  ·have b1:=k.ch.bd (show i<q+1 by omega)
   have b2:=k.ch.bd (show i+1<q+1 by omega)
   have b3:=kb.bd _ b1;have b4:=kb.bd _ b2;have b5:=kb.up.lt (k.ch.up i ω) b2;have b6:=kb.up.le (show c i<=n-1 by omega) ω
   have GG:=W0.trans GW;have kk:=k.gw GG;have sz:=GW.size;simp at sz;exact agd p o g (q+1) cap w.heap.size (w.heap.size+1) s (f (c i)) ((c i:Int)+h) (f (c (i+1))) (((c (i+1):Nat):Int)+h) x y i ω ω b3.1 b5 ω b4.2 x1 ω ω ω ω y0 y1 hs W ω ω kk.lp kk.ps.lt
    ((GW.cell _ _ ζ).trans ι) ((GW.cell _ _ ε).trans ι) ((GW.cell _ _ ε).trans ι) kk.c0 kk.c1 (kk.ps.x i ω) (kk.ps.y i ω) (kk.ps.x (i+1) ω) (kk.ps.y (i+1) ω)
  ·exact (Ec b hb).2 (k.ch.mono kb.up hx cN ω ((Ec a ω).1 ha))
  ·rintro e w' ⟨⟨t,rfl,tq,lo,hi⟩,G⟩
   refine ⟨⟨t,rfl,ω,fun i hi=>?_,fun i h1 h2=>(Ec i ω).1 (hi i h1 ω)⟩,W0.trans G⟩
   intro hb;have:=(Ec i ω).2 hb;rw [lo i hi] at this;cases this
 have cc:=k.c1;have lp:=k.lp;have QQ:IntKind.i64.wrap (((q+1:Nat):Int)-1)=q:=by rw [Δ];omega
 have QQ2:((q+1:Nat):Int)-1=q:=ω;clear k W0 kb;go_enter func228,ntmps228;go_wp2_with fail;refine SE.o.mono ?_;rintro e w1 ⟨⟨t,rfl,ht⟩,g1⟩;have HT:ag _:=ht;have G1:ag _:=g1;clear ht g1;go_wp2;go_ret;exact ⟨⟨t,rfl,HT.o⟩,G1.o⟩
theorem WE {g:Nat} (kb:KB f n) (hs:s=1\/s=-1) (h0:-63<=h) (h1:h<=63) (x y:Int) (hx:f (n-1)<x) (x1:x<18446744073709551616) (y0:-10000000<=y) (y1:y<=10000000) (w:World) (k:CH w p o g m cap s h f n c) :
  Calls prog 226 #[.pointer (some (φ p o)),.agg #[BY x,By y]] w fun e w'=>(∃ t:Nat,e=χ (.agg #[BY (f (c t)),By ((c t:Int)+h)])/\kL f (fun j=>s*(j:Int)) m c x (s*(y-h)) t)/\Gw w w':=by
 have G0:Gw w ((w.alloc (.cells #[BY x,By y] 284)).alloc (.cells #[BY 0,By 0] 284)):=((Gw.refl w).alloc _ _).alloc _ _;have TA:ag (∀ W,Gw w W->Calls prog 228 #[.pointer (some (φ p o)),.agg #[BY x,By y]] W fun e w'=>(∃ t:Nat,e=χ (By t)/\kL f (fun j=>s*(j:Int)) m c x (s*(y-h)) t)/\Gw W w'):=fun W G=>WC kb hs h0 h1 x y hx x1 y0 y1 W (k.gw G)
 have FX:ag (∀ W,Gw ((w.alloc (.cells #[BY x,By y] 284)).alloc (.cells #[BY 0,By 0] 284)) W->CH W p o g m cap s h f n c/\Bx W (w.heap.size+1) 284 (BY 0) (By 0)/\Gw w W):=fun W G=>⟨k.gw (G0.trans G),((Bx.new _ _ _ _).at ε).gw G,G0.trans G⟩
 have KM:m<100000000:=by have:=k.ch.len;have:=kb.len;omega
 have cc:=k.c1;have lp:=k.lp;clear k G0 kb;go_enter func226,ntmps226;go_wp2_with fail;go_region_with (go_at_call 228;refine (TA.o _ (((Gw.refl w).alloc _ _).alloc _ _).drew).mono ?_;rintro e w4 ⟨⟨t,rfl,ht⟩,g4⟩;obtain ⟨F1,F2,F3⟩:=FX.o w4 ((Gw.drew (Gw.refl _)).trans g4);have j1:=F1.c1;have j2:=F1.ps.x t ht.lt;have j3:=F1.ps.y t ht.lt;have j4:=F2.c0;have j5:=F2.c1;have j6:=F2.fz 0;have j7:=F2.fz 1;have j8:(t:Int)<m:=(by have:=ht.lt;omega);have F1':ag (CH w4 p o g m cap s h f n c):=F1;have Ed:ag (Bx w4 (w.heap.size+1) 284 (BY 0) (By 0)):=F2;have F3':ag (Gw w w4):=F3;have rH:ag (kL f (fun j=>s*(j:Int)) m c x (s*(y-h)) t):=ht;clear F1 F2 F3 ht g4)
 all_goals
  clear j1 j2 j3 j4 j5 j6 j7 j8 cc;have Y:=Ed.o.set (BY (f (c t))) (By ((c t:Int)+h));have y0':=Y.c0;have y1':=Y.c1;have FG:ag (Gw w ((w4.setCell (φ (w.heap.size+1) 0) (BY (f (c t)))).setCell (φ (w.heap.size+1) 1) (By ((c t:Int)+h)))):=(F3'.o.setCell ε _).setCell ε _;clear Y;go_wp2;refine bodyPost_ret (v:=.agg #[BY (f (c t)),By ((c t:Int)+h)]) (by simp [results,results226,go_sem,y0',y1']) rfl ⟨⟨t,rfl,rH.o⟩,FG.o⟩
theorem WG {g:Nat} (kb:KB f n) (w:World) (k:CH w p o g m cap s h f n c) :
  Calls prog 212 #[.pointer (some (φ p o))] w fun e w'=>e=χ (.agg #[BY (f (n-1)),By (((n-1:Nat):Int)+h)])/\Gw w w':=by
 have KM:m<100000000:=by have:=k.ch.len;have:=kb.len;omega
 obtain ⟨q,hq⟩:∃ q:Nat,m=q+1:=⟨m-1,by have:=k.ch.pos;omega⟩
 subst hq;have cl:c q=n-1:=by have:=k.ch.last;rw [show q+1-1=q by omega] at this;omega
 have cc:=k.c1;have lp:=k.lp;have lg:=k.ps.lt;have k2:=k.ps.x q ω;have k3:=k.ps.y q ω;rw [cl] at k2 k3;generalize f (n-1)=fx at k2 ⊢;generalize ((n-1:Nat):Int)+h=fy at k3 ⊢;have QQ:IntKind.i64.wrap (((q+1:Nat):Int)-1)=q:=by rw [Δ];omega
 have Q1:(q:Int)<q+1:=ω;clear k kb cl;go_enter func212,ntmps212;go_wp2_with fail;go_region
 all_goals
  go_wp2
  refine bodyPost_ret (v:=.agg #[BY fx,By fy]) (by simp [results,results212,go_sem]) rfl ⟨rfl,?_⟩
  first
   | exact ((Gw.refl w).alloc _ _).drew
   | exact ((((Gw.refl w).alloc _ _).drew).setCell ε _).setCell ε _
