/- Chains of points that bend one way, in plain words: which point a new one touches, and what the chain is when it is laid down. -/
import Derived.Test.YtemijdhemdhclaaGreatNPBs
import Derived.Test.YtemijdhemdhclaaGreatNShelf
set_option linter.unusedVariables false
set_option maxHeartbeats 4000000
open Go.Proofs.Tryz
namespace Go.Proofs.YtemijdhemdhclaaGreat
theorem cut3 {B C J d u v A:Int} (h1:B*d*v<=A*u*v) (h2:A*v*u<=J*d*u) (d0:0<d):B*v<=J*u:=by
 rw [Int.mul_right_comm B d v] at h1;rw [Int.mul_right_comm A v u,Int.mul_right_comm J d u] at h2;exact Int.le_of_mul_le_mul_right (Int.le_trans h1 h2) d0
theorem cross_left {ga gt gp gj xa xt xp xj:Int} (d0:xa<xt) (u0:xt<xp) (v0:xj<=xt) (h1:(gt-ga)*(xp-xa)<(gp-ga)*(xt-xa)) (h2:(gt-ga)*(xj-xa)<=(gj-ga)*(xt-xa)) :
  (gp-gt)*(xj-xt)<=(gj-gt)*(xp-xt):=by
 have a1:(gt-ga)*(xp-xt)<=(gp-gt)*(xt-xa):=by
  have e1:(gt-ga)*(xp-xa)=(gt-ga)*(xp-xt)+(gt-ga)*(xt-xa):=by rw [<-Int.mul_add];congr 1;omega
  have e2:(gp-ga)*(xt-xa)=(gp-gt)*(xt-xa)+(gt-ga)*(xt-xa):=by rw [<-Int.add_mul];congr 1;omega
  omega
 have a2:(gt-ga)*(xj-xt)<=(gj-gt)*(xt-xa):=by
  have e1:(gt-ga)*(xj-xa)=(gt-ga)*(xj-xt)+(gt-ga)*(xt-xa):=by rw [<-Int.mul_add];congr 1;omega
  have e2:(gj-ga)*(xt-xa)=(gj-gt)*(xt-xa)+(gt-ga)*(xt-xa):=by rw [<-Int.add_mul];congr 1;omega
  omega
 refine cut3 (C:=0) (d:=xt-xa) (A:=gt-ga) ?_ (Int.mul_le_mul_of_nonneg_right a2 (by omega)) (by omega)
 exact Int.mul_le_mul_of_nonpos_right a1 (by omega)
theorem cross_right {gt gb gp gj xt xb xp xj:Int} (w0:xt<xb) (u0:xt<xp) (v0:xt<=xj) (h1:(gp-gt)*(xb-xt)<=(gb-gt)*(xp-xt)) (h2:(gb-gt)*(xj-xt)<=(gj-gt)*(xb-xt)) :
  (gp-gt)*(xj-xt)<=(gj-gt)*(xp-xt) :=
 cut3 (C:=0) (d:=xb-xt) (A:=gb-gt) (Int.mul_le_mul_of_nonneg_right h1 (by omega)) (Int.mul_le_mul_of_nonneg_right h2 (by omega)) (by omega)
theorem cross_next {ga gt gb gp xa xt xb xp:Int} (d0:xa<xt) (w0:xt<xb) (u0:xt<xp) (h1:(gp-ga)*(xt-xa)<=(gt-ga)*(xp-xa)) (h2:(gt-ga)*(xb-xa)<=(gb-ga)*(xt-xa)) :
  (gp-gt)*(xb-xt)<=(gb-gt)*(xp-xt):=by
 have a1:(gp-gt)*(xt-xa)<=(gt-ga)*(xp-xt):=by
  have e1:(gt-ga)*(xp-xa)=(gt-ga)*(xp-xt)+(gt-ga)*(xt-xa):=by rw [<-Int.mul_add];congr 1;omega
  have e2:(gp-ga)*(xt-xa)=(gp-gt)*(xt-xa)+(gt-ga)*(xt-xa):=by rw [<-Int.add_mul];congr 1;omega
  omega
 have a2:(gt-ga)*(xb-xt)<=(gb-gt)*(xt-xa):=by
  have e1:(gt-ga)*(xb-xa)=(gt-ga)*(xb-xt)+(gt-ga)*(xt-xa):=by rw [<-Int.mul_add];congr 1;omega
  have e2:(gb-ga)*(xt-xa)=(gb-gt)*(xt-xa)+(gt-ga)*(xt-xa):=by rw [<-Int.add_mul];congr 1;omega
  omega
 exact cut3 (C:=0) (d:=xt-xa) (A:=gt-ga) (Int.mul_le_mul_of_nonneg_right a1 (by omega)) (Int.mul_le_mul_of_nonneg_right a2 (by omega)) (by omega)
structure Chn (X g:Nat->Int) (n m:Nat) (c:Nat->Nat):Prop where
 pos:0<m
 first:c 0=0
 last:c (m-1)+1=n
 up:∀ i,i+1<m->c i<c (i+1)
 abv:∀ i j,i+1<m->j<n->(g (c (i+1))-g (c i))*(X j-X (c i))<=(g j-g (c i))*(X (c (i+1))-X (c i))
theorem Chn.lt {X g:Nat->Int} {n m:Nat} {c:Nat->Nat} (h:Chn X g n m c):∀ {i j:Nat},i<j->j<m->c i<c j:=by
 intro i j hij hj;induction j with
 | zero=>omega
 | succ j ih =>
  have h1:=h.up j hj;by_cases e:i=j
  ·subst e;exact h1
  ·have h2:=ih (by omega) (by omega)
   omega
theorem Chn.le {X g:Nat->Int} {n m:Nat} {c:Nat->Nat} (h:Chn X g n m c) {i j:Nat} (hij:i<=j) (hj:j<m):c i<=c j:=by
 by_cases e:i=j
 ·subst e;omega
 ·have:=h.lt (show i<j by omega) hj;omega
theorem Chn.bd {X g:Nat->Int} {n m:Nat} {c:Nat->Nat} (h:Chn X g n m c) {i:Nat} (hi:i<m):c i<n:=by
 have h1:=h.le (show i<=m-1 by omega) (by omega)
 have h2:=h.last;omega
theorem Chn.len {X g:Nat->Int} {n m:Nat} {c:Nat->Nat} (h:Chn X g n m c):m<=n:=by
 have hs:∀ i,i<m->i<=c i:=by
  intro i;induction i with
  | zero=>intro _;omega
  | succ i ih=>intro hi;have:=ih (by omega);have:=h.up i hi;omega
 have h1:=hs (m-1) (by have:=h.pos;omega)
 have h2:=h.last;have h3:=h.pos;omega
def Blo (X g:Nat->Int) (c:Nat->Nat) (x y:Int) (i:Nat):Prop:=(y-g (c i))*(X (c (i+1))-X (c i))<=(g (c (i+1))-g (c i))*(x-X (c i))
theorem Chn.mono {X g:Nat->Int} {n m:Nat} {c:Nat->Nat} {x y:Int} (h:Chn X g n m c) (u:Up X n) (hx:X (n-1)<x):∀ {i j:Nat},i<=j->j+1<m->Blo X g c x y i->Blo X g c x y j:=by
 intro i j hij hj hi;induction j with
 | zero =>
      have:i=0:=by omega
      subst this;exact hi
 | succ j ih =>
  by_cases e:i=j+1
  ·subst e;exact hi
  ·have hb:=ih (by omega) (by omega)
   have b1:=h.bd (show j+1<m by omega)
   have b2:=h.bd (show j+1+1<m by omega)
   have x1:=u.le (show c (j+1)<=n-1 by omega) (by omega)
   exact cross_next (u.lt (h.up j (by omega)) b1) (u.lt (h.up (j+1) hj) b2) (by omega) hb (h.abv j (c (j+1+1)) (by omega) b2)
structure Tch (X g:Nat->Int) (m:Nat) (c:Nat->Nat) (x y:Int) (t:Nat):Prop where
 lt:t<m
 lo:∀ i,i<t->¬ Blo X g c x y i
 hi:∀ i,t<=i->i+1<m->Blo X g c x y i
theorem Chn.touch {X g:Nat->Int} {n m:Nat} {c:Nat->Nat} {x y:Int} {t:Nat} (h:Chn X g n m c) (u:Up X n) (hx:X (n-1)<x) (ht:Tch X g m c x y t) :
  ∀ j,j<n->(y-g (c t))*(X j-X (c t))<=(g j-g (c t))*(x-X (c t)):=by
 intro j hj;have tl:=ht.lt;have bt:=h.bd tl;have xt:=u.le (show c t<=n-1 by omega) (by omega)
 rcases Nat.lt_or_ge (c t) j with q | q
 ·
  have htm:t+1<m:=by
   rcases Nat.lt_or_ge (t+1) m with r | r
   ·exact r
   ·have e:t=m-1:=by omega
    have:=h.last
    rw [<-e] at this;omega
  have b1:=h.bd htm;exact cross_right (u.lt (h.up t htm) b1) (by omega) (u.le (by omega) hj) (ht.hi t (Nat.le_refl _) htm) (h.abv t j htm hj)
 ·by_cases e:t=0
  ·subst e
   have:=h.first
   have ej:j=c 0:=by omega
   rw [<-ej];have e1:X j-X j=0:=by omega
   have e2:g j-g j=0:=by omega
   rw [e1,e2,Int.mul_zero,Int.zero_mul];exact Int.le_refl _
  ·obtain ⟨s,rfl⟩:∃ s,t=s+1:=⟨t-1,by omega⟩
   have nb:=ht.lo s (by omega)
   unfold Blo at nb;exact cross_left (u.lt (h.up s tl) bt) (by omega) (u.le q (by omega)) (by omega) (h.abv s j tl hj)
theorem chn_one (X g:Nat->Int):Chn X g 1 1 (fun _=>0) :=
 ⟨by omega,rfl,rfl,fun i hi=>by omega,fun i j hi=>by omega⟩
def cput (c:Nat->Nat) (k n:Nat) (i:Nat):Nat:=if i=k then n else c i
theorem cput_at (c:Nat->Nat) (k n:Nat):cput c k n k=n:=if_pos rfl
theorem cput_lo {c:Nat->Nat} {k n i:Nat} (h:i<k):cput c k n i=c i:=if_neg (by omega)
theorem Chn.lay {X g:Nat->Int} {n m:Nat} {c:Nat->Nat} {x:Int} {t:Nat} (h:Chn X g n m c) (u:Up X n) (hx:X (n-1)<x) (ht:Tch X g m c x (g n) t) :
  Chn (upd X n x) g (n+1) (t+2) (cput c (t+1) n):=by
 have tl:=ht.lt;have all:=h.touch u hx ht;have cl:∀ i,i<=t->cput c (t+1) n i=c i:=fun i hi=>cput_lo (by omega)
 have cn:cput c (t+1) n (t+1)=n:=cput_at _ _ _;have bd:∀ i,i<=t->c i<n:=fun i hi=>h.bd (by omega)
 refine ⟨by omega,by rw [cl 0 (by omega)];exact h.first,by rw [show t+2-1=t+1 by omega,cn],fun i hi=>?_,fun i j hi hj=>?_⟩
 ·by_cases e:i=t
  ·subst e;rw [cn,cl _ (by omega)];exact bd _ (by omega)
  ·rw [cl i (by omega),cl (i+1) (by omega)];exact h.up i (by omega)
 ·by_cases e:i=t
  ·subst e
   rw [cn,cl _ (by omega),upd_at,upd_lo (bd i (by omega))]
   by_cases q:j=n
   ·subst q;rw [upd_at];exact Int.le_refl _
   ·rw [upd_lo (by omega)]
    exact all j (by omega)
  ·rw [cl i (by omega),cl (i+1) (by omega),upd_lo (bd i (by omega)),upd_lo (bd (i+1) (by omega))]
   by_cases q:j=n
   ·subst q
    rw [upd_at];have nb:=ht.lo i (by omega)
    unfold Blo at nb;omega
   ·rw [upd_lo (by omega)]
    exact h.abv i j (by omega) (by omega)
structure LowU (e:Int) (f:Nat->Int) (S:Nat->Nat->Prop) (a b:Int):Prop where
 a0:0<=a
 b1:1<=b
 bound:∀ i j,S i j->((j:Int)-i-2*e)*b<=a*(f j-f i)
 att:a=0\/∃ i j,S i j/\0<(j:Int)-i-2*e/\((j:Int)-i-2*e)*b=a*(f j-f i)
def TopU (e:Int) (f:Nat->Int) (S:Nat->Nat->Prop) (a b:Int):Prop :=
 (a=1/\b=0/\∀ i j,¬ S i j) \/
 (1<=a/\1<=b/\(∀ i j,S i j->a*(f j-f i)<=((j:Int)-i+2*e)*b)/\∃ i j,S i j/\a*(f j-f i)=((j:Int)-i+2*e)*b)
theorem LowU.red {e:Int} {f:Nat->Int} {S:Nat->Nat->Prop} {a b c d g:Int} (h:LowU e f S a b) (g0:0<g) (ea:c*g=a) (eb:d*g=b) (hg:Int.gcd c d=1):LowOn e f S c d:=by
 have c0:0<=c:=by
  rcases Int.lt_or_le c 0 with q | q
  ·have:=Int.mul_neg_of_neg_of_pos q g0
   have:=h.a0
   omega
  ·exact q
 have d1:1<=d:=by
  rcases Int.lt_or_le 0 d with q | q
  ·omega
  ·have:=Int.mul_nonpos_of_nonpos_of_nonneg q (show 0<=g by omega)
   have:=h.b1
   omega
 refine ⟨c0,d1,hg,fun i j s=>?_,?_⟩
 ·have:=h.bound i j s
  rw [<-ea,<-eb,<-Int.mul_assoc,Int.mul_right_comm c g] at this;exact Int.le_of_mul_le_mul_right this g0
 ·rcases h.att with q | ⟨i,j,s,m0,r⟩
  ·left
   rcases Int.mul_eq_zero.1 (ea.trans q) with z | z
   ·exact z
   ·omega
  ·refine .inr ⟨i,j,s,m0,?_⟩
   rw [<-ea,<-eb,<-Int.mul_assoc,Int.mul_right_comm c g] at r;exact Int.eq_of_mul_eq_mul_right (by omega) r
theorem TopU.red {e:Int} {f:Nat->Int} {S:Nat->Nat->Prop} {a b c d g:Int} (h:TopU e f S a b) (hb:b≠0) (g0:0<g) (ea:c*g=a) (eb:d*g=b) (hg:Int.gcd c d=1):TopOn e f S c d:=by
 rcases h with ⟨_,q,_⟩ | ⟨a1,b1,bound,i,j,s,r⟩
 ·exact absurd q hb
 ·have c1:1<=c:=by
   rcases Int.lt_or_le 0 c with q | q
   ·omega
   ·have:=Int.mul_nonpos_of_nonpos_of_nonneg q (show 0<=g by omega)
    omega
  have d1:1<=d:=by
   rcases Int.lt_or_le 0 d with q | q
   ·omega
   ·have:=Int.mul_nonpos_of_nonpos_of_nonneg q (show 0<=g by omega)
    omega
  refine .inr ⟨c1,d1,hg,fun i j s=>?_,i,j,s,?_⟩
  ·have:=bound i j s
   rw [<-ea,<-eb,<-Int.mul_assoc,Int.mul_right_comm c g] at this;exact Int.le_of_mul_le_mul_right this g0
  ·rw [<-ea,<-eb,<-Int.mul_assoc,Int.mul_right_comm c g] at r
   exact Int.eq_of_mul_eq_mul_right (by omega) r
theorem low_ex {a b:Int} (a0:0<=a) (b1:1<=b):∃ c d g:Int,0<g/\c*g=a/\d*g=b/\Int.gcd c d=1:=by
 have hg:0<Int.gcd a b:=Int.gcd_pos_of_ne_zero_right _ (by omega)
 exact ⟨a/Int.gcd a b,b/Int.gcd a b,Int.gcd a b,by omega,Int.ediv_mul_cancel (Int.gcd_dvd_left _ _),Int.ediv_mul_cancel (Int.gcd_dvd_right _ _),Int.gcd_ediv_gcd_ediv_gcd hg⟩
theorem fitsU {e:Int} {f:Nat->Int} {S:Nat->Nat->Prop} {a b c d:Int} (he:0<=e) (p:Pairs f S) (h:LowU e f S a b) (k:TopU e f S c d) (hd:d≠0):a*d<=c*b↔FitsOn e f S:=by
 have b1:=h.b1;obtain ⟨a',b',g,g0,ea,eb,hg⟩:=low_ex h.a0 h.b1;have k1:1<=c/\1<=d:=by
  rcases k with ⟨_,q,_⟩ | ⟨c1,d1,_⟩
  ·exact absurd q hd
  ·exact ⟨c1,d1⟩
 obtain ⟨c',d',g',g0',ec,ed,hg'⟩:=low_ex (show 0<=c by omega) k1.2
 have H:=h.red g0 ea eb hg;have K:=k.red hd g0' ec ed hg';rw [<-fits_iff he p H K];have d1:1<=d':=by
  rcases Int.lt_or_le 0 d' with q | q
  ·omega
  ·have:=Int.mul_nonpos_of_nonpos_of_nonneg q (show 0<=g' by omega)
   omega
 have b1':=H.b1;have e1:a*d=a'*d'*(g*g'):=by rw [<-ea,<-ed,mul4]
 have e2:c*b=c'*b'*(g*g'):=by rw [<-ec,<-eb,mul4,Int.mul_comm g' g]
 have gg:0<g*g':=Int.mul_pos g0 g0';have key:a*d<=c*b↔a'*d'<=c'*b':=by
  rw [e1,e2];exact ⟨fun q=>Int.le_of_mul_le_mul_right q gg,fun q=>Int.mul_le_mul_of_nonneg_right q (by omega)⟩
 rw [key];unfold Blw;constructor
 ·intro q r
  rcases r with ⟨_,r⟩ | ⟨_,_,r⟩
  ·omega
  ·omega
 ·intro q
  rcases Int.lt_or_le (c'*b') (a'*d') with r | r
  ·exact absurd (.inr ⟨by omega,by omega,r⟩) q
  ·exact r
theorem LowU.congr {e:Int} {f g:Nat->Int} {S T:Nat->Nat->Prop} {a b:Int} (h:LowU e f S a b) (st:∀ i j,S i j↔T i j) (q:∀ i j,S i j->f j-f i=g j-g i):LowU e g T a b :=
 ⟨h.a0,h.b1,fun i j s=>by rw [<-q i j ((st i j).2 s)];exact h.bound i j ((st i j).2 s),by
  rcases h.att with h0 | ⟨i,j,s,m,r⟩
  ·exact .inl h0
  ·exact .inr ⟨i,j,(st i j).1 s,m,by rw [<-q i j s];exact r⟩⟩
theorem TopU.congr {e:Int} {f g:Nat->Int} {S T:Nat->Nat->Prop} {a b:Int} (h:TopU e f S a b) (st:∀ i j,S i j↔T i j) (q:∀ i j,S i j->f j-f i=g j-g i):TopU e g T a b:=by
 rcases h with ⟨h1,h2,no⟩ | ⟨a1,b1,hb,i,j,s,r⟩
 ·exact .inl ⟨h1,h2,fun i j s=>no i j ((st i j).2 s)⟩
 ·exact .inr ⟨a1,b1,fun i j s=>by rw [<-q i j ((st i j).2 s)];exact hb i j ((st i j).2 s),i,j,(st i j).1 s,by rw [<-q i j s];exact r⟩
theorem prs_succ {n p q:Nat} (s:Prs (n+1) p q):Prs n p q\/(p<n/\q=n):=by
 unfold Prs at *;omega
theorem low_more {e:Int} {f:Nat->Int} {n t:Nat} {x a b r s:Int} (u:Up (upd f n x) (n+1)) (h:LowU e f (Prs n) a b) (ht:t<n) (er:r=(n:Int)-t-2*e) (es:s=x-f t)
  (hb:∀ j,j<n->((n:Int)-j-2*e)*s<=r*(x-f j)) :
  (r*b<a*s->LowU e (upd f n x) (Prs (n+1)) a b)/\(¬ r*b<a*s->LowU e (upd f n x) (Prs (n+1)) r s):=by
 have s1:1<=s:=by
  have:=u.lt ht (show n<n+1 by omega)
  rw [upd_at,upd_lo ht] at this;omega
 have a0:=h.a0;have b1:=h.b1;have up:∀ j,j<n->0<x-f j:=fun j hj=>by
  have:=u.lt hj (show n<n+1 by omega)
  rw [upd_at,upd_lo hj] at this;omega
 have old:∀ i j,Prs n i j->0<f j-f i:=fun i j q=>by
  have q1:=q.1;have q2:=q.2;have:=u.lt q1 (show j<n+1 by omega)
  rw [upd_lo q2,upd_lo (by omega)] at this
  omega
 constructor
 ·intro hlt
  refine ⟨h.a0,h.b1,fun i j q=>?_,?_⟩
  ·rcases prs_succ q with q | ⟨q,rfl⟩
   ·rw [upd_lo q.2,upd_lo (by have:=q.1;have:=q.2;omega)]
    exact h.bound i j q
   ·rw [upd_at,upd_lo q]
    have h1:=hb i q;have D:=up i q;have m1:((j:Int)-i-2*e)*s*b<=r*(x-f i)*b:=Int.mul_le_mul_of_nonneg_right h1 (by omega)
    have m2:r*b*(x-f i)<=a*s*(x-f i):=Int.mul_le_mul_of_nonneg_right (by omega) (by omega)
    rw [Int.mul_right_comm _ s b,Int.mul_right_comm r _ b] at m1;rw [Int.mul_right_comm a s] at m2;exact Int.le_of_mul_le_mul_right (Int.le_trans m1 m2) (by omega)
  ·rcases h.att with q | ⟨i,j,q,m0,eq⟩
   ·exact .inl q
   ·refine .inr ⟨i,j,⟨q.1,by have:=q.2;omega⟩,m0,?_⟩
    rw [upd_lo q.2,upd_lo (by have:=q.1;have:=q.2;omega)]
    exact eq
 ·intro hge
  have r0:0<=r:=by
   rcases Int.lt_or_le r 0 with q | q
   ·have h1:=Int.mul_neg_of_neg_of_pos q (show 0<b by omega)
    have h2:0<=a*s:=Int.mul_nonneg a0 (by omega)
    omega
   ·exact q
  refine ⟨r0,s1,fun i j q=>?_,?_⟩
  ·rcases prs_succ q with q | ⟨q,rfl⟩
   ·rw [upd_lo q.2,upd_lo (by have:=q.1;have:=q.2;omega)]
    have h1:=h.bound i j q;have D:=old i j q;have m1:((j:Int)-i-2*e)*b*s<=a*(f j-f i)*s:=Int.mul_le_mul_of_nonneg_right h1 (by omega)
    have m2:a*s*(f j-f i)<=r*b*(f j-f i):=Int.mul_le_mul_of_nonneg_right (by omega) (by omega)
    rw [Int.mul_right_comm _ b s,Int.mul_right_comm a _ s] at m1;rw [Int.mul_right_comm r b] at m2;exact Int.le_of_mul_le_mul_right (Int.le_trans m1 m2) (by omega)
   ·rw [upd_at,upd_lo q]
    exact hb i q
  ·by_cases z:r=0
   ·exact .inl z
   ·refine .inr ⟨t,n,⟨ht,by omega⟩,by omega,?_⟩
    rw [upd_at,upd_lo ht,<-er,<-es]
theorem top_more {e:Int} {f:Nat->Int} {n t:Nat} {x a b r s:Int} (he:0<=e) (u:Up (upd f n x) (n+1)) (h:TopU e f (Prs n) a b) (ht:t<n) (er:r=(n:Int)-t+2*e) (es:s=x-f t)
  (hb:∀ j,j<n->r*(x-f j)<=((n:Int)-j+2*e)*s) :
  (a*s<r*b->TopU e (upd f n x) (Prs (n+1)) a b)/\(¬ a*s<r*b->TopU e (upd f n x) (Prs (n+1)) r s):=by
 have s1:1<=s:=by
  have:=u.lt ht (show n<n+1 by omega)
  rw [upd_at,upd_lo ht] at this;omega
 have up:∀ j,j<n->0<x-f j:=fun j hj=>by
  have:=u.lt hj (show n<n+1 by omega)
  rw [upd_at,upd_lo hj] at this;omega
 have old:∀ i j,Prs n i j->0<f j-f i:=fun i j q=>by
  have q1:=q.1;have q2:=q.2;have:=u.lt q1 (show j<n+1 by omega)
  rw [upd_lo q2,upd_lo (by omega)] at this
  omega
 have r1:1<=r:=by omega
 constructor
 ·intro hlt
  rcases h with ⟨rfl,rfl,_⟩ | ⟨a1,b1,bound,i,j,q,eq⟩
  ·omega
  ·refine .inr ⟨a1,b1,fun i j q=>?_,i,j,⟨q.1,by have:=q.2;omega⟩,?_⟩
   ·rcases prs_succ q with q | ⟨q,rfl⟩
    ·rw [upd_lo q.2,upd_lo (by have:=q.1;have:=q.2;omega)]
     exact bound i j q
    ·rw [upd_at,upd_lo q]
     have h1:=hb i q;have D:=up i q;have m1:r*(x-f i)*b<=((j:Int)-i+2*e)*s*b:=Int.mul_le_mul_of_nonneg_right h1 (by omega)
     have m2:a*s*(x-f i)<=r*b*(x-f i):=Int.mul_le_mul_of_nonneg_right (by omega) (by omega)
     rw [Int.mul_right_comm _ s b,Int.mul_right_comm r _ b] at m1;rw [Int.mul_right_comm a s] at m2;exact Int.le_of_mul_le_mul_right (Int.le_trans m2 m1) (by omega)
   ·rw [upd_lo q.2,upd_lo (by have:=q.1;have:=q.2;omega)]
    exact eq
 ·intro hge
  refine .inr ⟨r1,s1,fun i j q=>?_,t,n,⟨ht,by omega⟩,?_⟩
  ·rcases prs_succ q with q | ⟨q,rfl⟩
   ·rcases h with ⟨_,_,no⟩ | ⟨a1,b1,bound,_⟩
    ·exact absurd q (no i j)
    ·rw [upd_lo q.2,upd_lo (by have:=q.1;have:=q.2;omega)]
     have h1:=bound i j q;have D:=old i j q;have m1:a*(f j-f i)*s<=((j:Int)-i+2*e)*b*s:=Int.mul_le_mul_of_nonneg_right h1 (by omega)
     have m2:r*b*(f j-f i)<=a*s*(f j-f i):=Int.mul_le_mul_of_nonneg_right (by omega) (by omega)
     rw [Int.mul_right_comm _ b s,Int.mul_right_comm a _ s] at m1;rw [Int.mul_right_comm r b] at m2;exact Int.le_of_mul_le_mul_right (Int.le_trans m2 m1) (by omega)
   ·rw [upd_at,upd_lo q]
    exact hb i q
  ·rw [upd_at,upd_lo ht,<-er,<-es]
theorem touch_low {e:Int} {f:Nat->Int} {n m t:Nat} {c:Nat->Nat} {x:Int} (h:Chn f (fun j=>1*(j:Int)) n m c) (u:Up f n) (hx:f (n-1)<x) (ht:Tch f (fun j=>1*(j:Int)) m c x (1*((n:Int)-2*e)) t) :
  ∀ j,j<n->((n:Int)-j-2*e)*(x-f (c t))<=((n:Int)-c t-2*e)*(x-f j):=by
 intro j hj;have:=h.touch u hx ht j hj;simp only [Int.one_mul] at this;have e1:((n:Int)-c t-2*e)*(x-f j)=((n:Int)-c t-2*e)*(x-f (c t))-((n:Int)-2*e-c t)*(f j-f (c t)):=by
  rw [show (n:Int)-2*e-c t=(n:Int)-c t-2*e by omega,<-Int.mul_sub];congr 1;omega
 have e2:((n:Int)-j-2*e)*(x-f (c t))=((n:Int)-c t-2*e)*(x-f (c t))-((j:Int)-c t)*(x-f (c t)):=by
  rw [<-Int.sub_mul];congr 1;omega
 omega
theorem touch_top {e:Int} {f:Nat->Int} {n m t:Nat} {c:Nat->Nat} {x:Int} (h:Chn f (fun j=>-1*(j:Int)) n m c) (u:Up f n) (hx:f (n-1)<x) (ht:Tch f (fun j=>-1*(j:Int)) m c x (-1*((n:Int)+2*e)) t) :
  ∀ j,j<n->((n:Int)-c t+2*e)*(x-f j)<=((n:Int)-j+2*e)*(x-f (c t)):=by
 intro j hj;have:=h.touch u hx ht j hj;have q1:(-1*((n:Int)+2*e) - -1*(c t:Int))=-((n:Int)-c t+2*e):=by omega
 have q2:(-1*(j:Int) - -1*(c t:Int))=-((j:Int)-c t):=by omega
 rw [q1,q2,Int.neg_mul,Int.neg_mul] at this;have e1:((n:Int)-c t+2*e)*(x-f j)=((n:Int)-c t+2*e)*(x-f (c t))-((n:Int)-c t+2*e)*(f j-f (c t)):=by
  rw [<-Int.mul_sub];congr 1;omega
 have e2:((n:Int)-j+2*e)*(x-f (c t))=((n:Int)-c t+2*e)*(x-f (c t))-((j:Int)-c t)*(x-f (c t)):=by
  rw [<-Int.sub_mul];congr 1;omega
 omega
open Go.RowKit Go.Shelf
theorem mul64 (x y:Int) (hx:0<=x) (hx':x<18446744073709551616) (hy:0<=y) (hy':y<18446744073709551616) (w:World) :
  Calls prog 185 #[.int .u64 x,.int .u64 y] w fun e w'=>e=.returned (.tuple #[.int .u64 (x*y/18446744073709551616),.int .u64 (x*y%18446744073709551616)])/\w'=w:=by
 obtain ⟨x,rfl⟩:=Int.eq_ofNat_of_zero_le hx;obtain ⟨y,rfl⟩:=Int.eq_ofNat_of_zero_le hy;have:=Tryz.bits_Mul64 x y (by omega) (by omega) w
 simpa using this
theorem times_any (a b:Int) (h0:-9223372036854775808<=a) (h1:a<9223372036854775808) (b0:0<=b) (b1:b<18446744073709551616) (w:World) :
  Calls prog 175 #[.int .i64 a,.int .u64 b] w fun e w'=>e=.returned (.agg #[.int .i64 (hiv (a*b)),.int .u64 (lov (a*b))])/\Gk 1 w w':=by
 obtain ⟨c1,c2⟩:=u64w_bd a;by_cases hn:a<0
 ·go_enter func175,ntmps175
  go_wp2_with (go_at_call 185;refine (mul64 _ _ c1 c2 b0 b1 _).mono ?_;rintro e w' ⟨rfl,rfl⟩)
  simp [bodyPost,results,results175,go_sem]
  refine ⟨⟨times_hi a b h0 h1 hn,times_lo a b⟩,(Gb.refl _).alloc _ _,by simp⟩
 ·go_enter func175,ntmps175
  go_wp2_with (go_at_call 185;refine (mul64 a b (by omega) (by omega) b0 b1 _).mono ?_;rintro e w' ⟨rfl,rfl⟩)
  simp [bodyPost,results,results175,go_sem]
  refine ⟨⟨times_hi' a b,rfl⟩,(Gb.refl _).alloc _ _,by simp⟩
theorem cmp_any (x y:Int) (w:World) :
  Calls prog 176 #[.agg #[.int .i64 (hiv (x)),.int .u64 (lov (x))],.agg #[.int .i64 (hiv (y)),.int .u64 (lov (y))]] w fun e w'=>e=.returned (.int .i64 (cmpi (sv x) (sv y)))/\Gk 2 w w':=by
 have i1:=sv_inj x y;have i2:=sv_lt x y;by_cases g1:hiv x=hiv y
 ·by_cases g2:lov x=lov y
  ·have e:cmpi (sv x) (sv y)=0:=by unfold cmpi;rw [if_neg (by omega),if_pos (by omega)]
   rw [e,g1,g2];clear i1 i2 e;go_enter func176,ntmps176;go_wp2;go_ret;exact ⟨rfl,((Gb.refl _).alloc _ _).alloc _ _,by simp⟩
  ·have f1:(lov x == lov y)=false:=by simpa using g2
   by_cases g3:lov x<lov y
   ·have e:cmpi (sv x) (sv y)=-1:=by unfold cmpi;rw [if_pos (by omega)]
    rw [e,g1];clear i1 i2 e;go_enter func176,ntmps176;go_wp2;go_ret;exact ⟨rfl,((Gb.refl _).alloc _ _).alloc _ _,by simp⟩
   ·have e:cmpi (sv x) (sv y)=1:=by unfold cmpi;rw [if_neg (by omega),if_neg (by omega)]
    rw [e,g1];clear i1 i2 e;go_enter func176,ntmps176;go_wp2;go_ret;exact ⟨rfl,((Gb.refl _).alloc _ _).alloc _ _,by simp⟩
 ·have f1:(hiv x == hiv y)=false:=by simpa using g1
  by_cases g3:hiv x<hiv y
  ·have e:cmpi (sv x) (sv y)=-1:=by unfold cmpi;rw [if_pos (by omega)]
   rw [e];clear i1 i2 e;go_enter func176,ntmps176;go_wp2;go_ret;exact ⟨rfl,((Gb.refl _).alloc _ _).alloc _ _,by simp⟩
  ·have e:cmpi (sv x) (sv y)=1:=by unfold cmpi;rw [if_neg (by omega),if_neg (by omega)]
   rw [e];clear i1 i2 e;go_enter func176,ntmps176;go_wp2;go_ret;exact ⟨rfl,((Gb.refl _).alloc _ _).alloc _ _,by simp⟩
theorem divisor_any (a b:Nat) (ha:a<18446744073709551616) (hb:b<18446744073709551616) (w:World) :
  Calls prog 182 #[.int .u64 a,.int .u64 b] w fun e w'=>e=.returned (.int .u64 (Nat.gcd a b:Nat))/\w'=w:=by
 go_enter func182,ntmps182;go_wp2;go_loop [0,1] (fun p q=>∃ c d:Nat,p=.int .u64 c/\q=.int .u64 d/\c<18446744073709551616/\d<18446744073709551616/\Hid (Nat.gcd c d=Nat.gcd a b)) (fun p _=>(intOf p).toNat)
 case atStart=>exact ⟨a,b,rfl,rfl,ha,hb,rfl⟩
 case round =>
  obtain ⟨c,d,rfl,rfl,hc,hd,hg⟩:=hrel;by_cases h:c=0
  ·have h1:((c:Int) == 0)=true:=by simp;omega
   have e:Hid (a.gcd b=d):=by
    have:=hg.out
    rw [h,Nat.gcd_zero_left] at this;exact this.symm
   clear hg h;go_wp2;go_ret;exact ⟨by rw [e.out];rfl,rfl⟩
  ·have h1:((c:Int) == 0)=false:=by simp;omega
   have h2:(d:Int)%c=((d%c:Nat):Int):=(Int.natCast_emod d c).symm;have h3:d%c<c:=Nat.mod_lt _ (by omega)
   go_wp2
   exact ⟨⟨d%c,c,by first | rfl | rw [h2],rfl,by omega,hc,show _=_ by rw [<-hg.out];exact (Nat.gcd_rec c d).symm⟩,by simp [intOf];omega⟩
def lowv (num den:Nat):Value:=.tuple #[.agg #[.int .u64 ((num/num.gcd den:Nat):Int),.int .u64 ((den/num.gcd den:Nat):Int)],.int .i64 0]
theorem lowest_any (num den:Nat) (hn:num<18446744073709551616) (hd:den<18446744073709551616) (h0:0<den) (w:World) :
  Calls prog 172 #[.int .u64 num,.int .u64 den] w fun e w'=>e=.returned (lowv num den)/\Gb w w':=by
 have hg:0<num.gcd den:=Nat.gcd_pos_of_pos_right _ h0;have h1:((den:Int) == 0)=false:=by simp;omega
 have h2:((num.gcd den:Int) == 0)=false:=by simp;omega
 have e1:(num:Int)/(num.gcd den:Nat)=((num/num.gcd den:Nat):Int):=(Int.natCast_ediv _ _).symm;have e2:(den:Int)/(num.gcd den:Nat)=((den/num.gcd den:Nat):Int):=(Int.natCast_ediv _ _).symm;have b1:num/num.gcd den<18446744073709551616:=Nat.lt_of_le_of_lt (Nat.div_le_self _ _) hn;have b2:den/num.gcd den<18446744073709551616:=Nat.lt_of_le_of_lt (Nat.div_le_self _ _) hd;unfold lowv;generalize num/num.gcd den=a at *;generalize den/num.gcd den=b at *;generalize hG:num.gcd den=G at *;go_enter func172,ntmps172;go_wp2_with (go_at_call 182;refine (divisor_any num den hn hd _).mono ?_;rw [hG];rintro e w' ⟨rfl,rfl⟩);go_region
 all_goals
  go_wp2
  refine bodyPost_ret (v:=.tuple #[.agg #[.int .u64 a,.int .u64 b],.int .i64 0]) (by simp [results,results172,go_sem]) rfl ⟨rfl,((Gb.refl w).alloc _ _).drew⟩
theorem mulbd {a b:Int} (a0:-100000000<=a) (a1:a<=100000000) (b0:0<=b) (b1:b<18446744073709551616):-170141183460469231731687303715884105728<=a*b/\a*b<170141183460469231731687303715884105728:=by
 have h1:a*b<=100000000*b:=Int.mul_le_mul_of_nonneg_right a1 b0;have h2:-100000000*b<=a*b:=Int.mul_le_mul_of_nonneg_right a0 b0;omega
theorem compare_any (a b c d:Int) (a0:-100000000<=a) (a1:a<=100000000) (b0:0<=b) (b1:b<18446744073709551616) (c0:-100000000<=c) (c1:c<=100000000) (d0:0<=d) (d1:d<18446744073709551616) (w:World) :
  Calls prog 170 #[.agg #[.int .i64 a,.int .u64 b],.agg #[.int .i64 c,.int .u64 d]] w fun e w'=>e=.returned (.int .i64 (cmpi (a*d) (c*b)))/\Gw w w':=by
 obtain ⟨p1,p2⟩:=mulbd a0 a1 d0 d1;obtain ⟨q1,q2⟩:=mulbd c0 c1 b0 b1;have T1:Hid (∀ w,Calls prog 175 #[.int .i64 a,.int .u64 d] w fun e w'=>e=.returned (.agg #[.int .i64 (hiv (a*d)),.int .u64 (lov (a*d))])/\Gk 1 w w'):=fun w=>times_any a d (by omega) (by omega) d0 d1 w
 have T2:Hid (∀ w,Calls prog 175 #[.int .i64 c,.int .u64 b] w fun e w'=>e=.returned (.agg #[.int .i64 (hiv (c*b)),.int .u64 (lov (c*b))])/\Gk 1 w w'):=fun w=>times_any c b (by omega) (by omega) b0 b1 w
 have T3:Hid (∀ w,Calls prog 176 #[.agg #[.int .i64 (hiv (a*d)),.int .u64 (lov (a*d))],.agg #[.int .i64 (hiv (c*b)),.int .u64 (lov (c*b))]] w fun e w'=>e=.returned (.int .i64 (cmpi (a*d) (c*b)))/\Gk 2 w w'):=by
  show ∀ w,Calls prog 176 #[.agg #[.int .i64 (hiv (a*d)),.int .u64 (lov (a*d))],.agg #[.int .i64 (hiv (c*b)),.int .u64 (lov (c*b))]] w fun e w'=>e=.returned (.int .i64 (cmpi (a*d) (c*b)))/\Gk 2 w w'
  intro w;have:=cmp_any (a*d) (c*b) w;rw [sv_of _ p1 p2,sv_of _ q1 q2] at this;exact this
 clear p1 p2 q1 q2;generalize a*d=ad at T1 T3 ⊢;generalize c*b=cb at T2 T3 ⊢;generalize cmpi ad cb=r at T3 ⊢;have GG:Hid (Gw w ((w.alloc (.cells #[.int .i64 a,.int .u64 b] 208)).alloc (.cells #[.int .i64 c,.int .u64 d] 208))):=((Gw.refl w).alloc _ _).alloc _ _;have N:∀ W:World,Nonempty (GW W):=GW.some;go_enter func170,ntmps170;go_wp2_with fail;have k0:=GW.cell (W:=(w.alloc (.cells #[.int .i64 a,.int .u64 b] 208)).alloc (.cells #[.int .i64 c,.int .u64 d] 208)) (b:=w.heap.size) (o:=0) (v:=.int .i64 a) (by simp [go_sem]) (by simp;omega)
 have k1:=GW.cell (W:=(w.alloc (.cells #[.int .i64 a,.int .u64 b] 208)).alloc (.cells #[.int .i64 c,.int .u64 d] 208)) (b:=w.heap.size) (o:=1) (v:=.int .u64 b) (by simp [go_sem]) (by simp;omega)
 have k2:=GW.cell (W:=(w.alloc (.cells #[.int .i64 a,.int .u64 b] 208)).alloc (.cells #[.int .i64 c,.int .u64 d] 208)) (b:=w.heap.size+1) (o:=0) (v:=.int .i64 c) (by simp [go_sem]) (by simp)
 have k3:=GW.cell (W:=(w.alloc (.cells #[.int .i64 a,.int .u64 b] 208)).alloc (.cells #[.int .i64 c,.int .u64 d] 208)) (b:=w.heap.size+1) (o:=1) (v:=.int .u64 d) (by simp [go_sem]) (by simp)
 have NN:=N ((w.alloc (.cells #[.int .i64 a,.int .u64 b] 208)).alloc (.cells #[.int .i64 c,.int .u64 d] 208));refine wp_region_grow (by kernel_rfl) (by kernel_rfl) ?_
 repeat (go_big_quiet_step (fail))
 go_big_quiet_want;go_big_quiet_op
 go_big_quiet_call (exact grow_ofk (T1.out _))
 repeat (go_big_quiet_step (fail))
 go_big_quiet_want;go_big_quiet_op
 go_big_quiet_call (exact grow_ofk (T2.out _))
 repeat (go_big_quiet_step (fail))
 go_big_quiet_want;go_big_quiet_op
 go_big_quiet_call (exact grow_ofk (T3.out _))
 repeat (go_big_quiet_step (fail))
 refine wpQuiet_nil ?_;rintro _ ⟨g,rfl⟩;go_wp2;go_ret;exact ⟨rfl,GG.out.trans g.2.gw⟩
theorem between_any (xa ya xb yb:Int) (xa0:0<=xa) (hx:xa<xb) (xb1:xb<18446744073709551616) (ya0:-100000000<=ya) (ya1:ya<=100000000) (yb0:-100000000<=yb) (yb1:yb<=100000000) (w:World) :
  Calls prog 168 #[.agg #[.int .u64 xa,.int .i64 ya],.agg #[.int .u64 xb,.int .i64 yb]] w fun e w'=>e=.returned (.agg #[.int .i64 (yb-ya),.int .u64 (xb-xa)])/\Gw w w':=by
 have e1:IntKind.u64.wrap (xb-xa)=xb-xa:=by rw [IntKind.wrap_u64];omega
 have e2:IntKind.i64.wrap (yb-ya)=yb-ya:=by rw [IntKind.wrap_i64];omega
 go_enter func168,ntmps168;go_wp2;refine bodyPost_ret (v:=.agg #[.int .i64 (yb-ya),.int .u64 (xb-xa)]) (by simp [results,results168,go_sem]) rfl ⟨rfl,?_⟩
 first
  | exact ((((Gw.refl w).alloc _ _).alloc _ _).alloc _ _)
  | exact (((((Gw.refl w).alloc _ _).alloc _ _).alloc _ _).setCell (by simp) _).setCell (by simp) _
theorem slow_any (a b:Int) (a0:0<=a) (a1:a<=100000000) (b0:0<b) (b1:b<18446744073709551616) (w:World) :
  Calls prog 159 #[.agg #[.int .i64 a,.int .u64 b]] w fun e w'=>(∃ c d g:Int,e=.returned (.agg #[.int .u64 c,.int .u64 d])/\0<g/\c*g=a/\d*g=b/\Int.gcd c d=1)/\Gw w w':=by
 obtain ⟨a,rfl⟩:=Int.eq_ofNat_of_zero_le a0;obtain ⟨b,rfl⟩:=Int.eq_ofNat_of_zero_le (show 0<=b by omega)
 have hg:0<a.gcd b:=Nat.gcd_pos_of_pos_right _ (by omega)
 have FIN:Hid (∃ g:Int,0<g/\((a/a.gcd b:Nat):Int)*g=a/\((b/a.gcd b:Nat):Int)*g=b/\Int.gcd ((a/a.gcd b:Nat):Int) ((b/a.gcd b:Nat):Int)=1):=by
  refine ⟨(a.gcd b:Nat),by omega,?_,?_,?_⟩
  ·rw [<-Int.natCast_mul,Nat.div_mul_cancel (Nat.gcd_dvd_left a b)]
  ·rw [<-Int.natCast_mul,Nat.div_mul_cancel (Nat.gcd_dvd_right a b)]
  ·have:=Int.gcd_ediv_gcd_ediv_gcd (i:=(a:Int)) (j:=(b:Int)) (by simpa using hg)
   simpa using this
 have wx:IntKind.u64.wrap (a:Int)=a:=by rw [IntKind.wrap_u64];omega
 have L:=lowest_any a b (by omega) (by omega) (by omega)
 have LL:Hid _:=L;clear L hg;unfold lowv at LL;generalize ((a/a.gcd b:Nat):Int)=c at LL FIN;generalize ((b/a.gcd b:Nat):Int)=d at LL FIN;go_enter func159,ntmps159;go_wp2_with fail;refine (LL.out _).mono ?_;rintro e w1 ⟨rfl,g1⟩;have X:=(Bx.new (w.alloc (.cells #[.int .i64 a,.int .u64 b] 208)) 219 (.int .u64 0) (.int .u64 0)).gw g1.gw;have X':Hid (Bx w1 (w.heap.size+1) 219 (.int .u64 0) (.int .u64 0)):=X.at (by simp)
 have x0:=X'.out.c0;have x1:=X'.out.c1;have x2:=X'.out.fz 0;have x3:=X'.out.fz 1;have G1:Hid (Gw w w1):=(((Gw.refl w).alloc _ _).alloc _ _).trans g1.gw;have hl:=X'.out.lt;clear X g1;go_wp2_with fail;have Y:=((X'.out.set (.int .u64 c) (.int .u64 d)).alloc (.cells #[.int .u64 c,.int .u64 d] 219));have y0:=Y.c0;have y1:=Y.c1;clear x0 x1 x2 x3;obtain ⟨g,f1,f2,f3,f4⟩:=FIN.out;refine bodyPost_ret (v:=.agg #[.int .u64 c,.int .u64 d]) (by simp [results,results159,go_sem,y0,y1]) rfl ⟨⟨c,d,g,rfl,f1,f2,f3,f4⟩,?_⟩
 exact ((G1.out.setCell (by simp) _).setCell (by simp) _).alloc _ _
open Go.RowKit
theorem search_any (cb:Array Value) (n:Nat) (p:Nat->Bool) (w:World) (hsz:n<1000000000)
  (hf:∀ W,Gw w W->∀ i:Nat,i<n->Calls prog 181 (#[.int .i64 i]++cb) W fun e w'=>e=.returned (.bool (p i))/\Gw W w')
  (hmono:∀ a b,a<=b->b<n->p a=true->p b=true) :
  Calls prog 180 #[.int .i64 n,.func (.func 181) #[] cb] w fun e w'=>(∃ t:Nat,e=.returned (.int .i64 t)/\t<=n/\(∀ i,i<t->p i=false)/\(∀ i,t<=i->i<n->p i=true))/\Gw w w':=by
 have HF:Aside _:=hf;have M:Aside _:=hmono;clear hf hmono;go_enter func180,ntmps180;go_wp2;go_loopg [5,6] n (fun kx s5 s6 wr=>∃ (lo hi:Nat),s5=.int .i64 lo/\s6=.int .i64 hi/\lo<=hi/\hi<=n/\hi-lo<=kx/\Aside (Gw w wr) /\
  Aside ((∀ t,t<lo->p t=false)/\(∀ t,hi<=t->t<n->p t=true)))
 case atStart=>exact ⟨0,n,rfl,rfl,Nat.zero_le _,Nat.le_refl _,by omega,(show Aside _ from Gw.refl w),(show Aside _ from ⟨fun t ht=>absurd ht (Nat.not_lt_zero _),fun t h1 h2=>by omega⟩)⟩
 case round =>
  obtain ⟨lo,hi,rfl,rfl,hlh,hin,hg,G,I⟩:=hrel;by_cases hlt:lo<hi
  ·have hc:=HF.out wr G.out ((lo+hi)/2) (by omega)
   rw [show (((lo+hi)/2:Nat):Int)=((lo:Int)+(hi:Int))/2 by omega] at hc
   cases hp:p ((lo+hi)/2)<;>rw [hp] at hc
   ·have HP:Aside (p ((lo+hi)/2)=false):=hp
    clear hp;go_wp2_with fail;refine hc.mono ?_;rintro e w1 ⟨rfl,g1⟩;have G1:Aside _:=G.out.trans g1;clear g1;go_wp2_with fail;go_roundg (hi-((lo+hi)/2+1))
    case measure=>omega
    case rel =>
     have I2:Aside ((∀ t,t<(lo+hi)/2+1->p t=false)/\(∀ t,hi<=t->t<n->p t=true)):=⟨fun t ht=>(by
      cases h:p t with
      | false=>rfl
      | true=>have:=M.out t ((lo+hi)/2) (by omega) (by omega) h;rw [HP.out] at this;cases this),I.out.2⟩
     exact ⟨(lo+hi)/2+1,hi,by rw [show ((lo:Int)+(hi:Int))/2+1=(((lo+hi)/2+1:Nat):Int) by omega],rfl,by omega,hin,Nat.le_refl _,G1,I2⟩
   ·have HP:Aside (p ((lo+hi)/2)=true):=hp
    clear hp;go_wp2_with fail;refine hc.mono ?_;rintro e w1 ⟨rfl,g1⟩;have G1:Aside _:=G.out.trans g1;clear g1;go_wp2_with fail;go_roundg ((lo+hi)/2-lo)
    case measure=>omega
    case rel =>
     have I2:Aside ((∀ t,t<lo->p t=false)/\(∀ t,(lo+hi)/2<=t->t<n->p t=true)):=⟨I.out.1,fun t ht htn=>M.out ((lo+hi)/2) t ht htn HP.out⟩
     exact ⟨lo,(lo+hi)/2,rfl,by rw [show ((lo:Int)+(hi:Int))/2=(((lo+hi)/2:Nat):Int) by omega],by omega,by omega,Nat.le_refl _,G1,I2⟩
  ·obtain rfl:hi=lo:=by omega
   go_wp2
   go_ret
   exact ⟨⟨hi,rfl,hin,I.out.1,I.out.2⟩,G.out⟩
structure PS (w:World) (g m:Nat) (X Y:Nat->Int):Prop where
 lt:g<w.heap.size
 x:∀ i,i<m->w.cell? ⟨g,i*2,none⟩=some (.int .u64 (X i))
 y:∀ i,i<m->w.cell? ⟨g,i*2+1,none⟩=some (.int .i64 (Y i))
theorem PS.gw {w w':World} {g m:Nat} {X Y:Nat->Int} (h:PS w g m X Y) (k:Gw w w'):PS w' g m X Y :=
 ⟨Nat.lt_of_lt_of_le h.lt k.size,fun i hi=>(k.cell _ _ h.lt).trans (h.x i hi),fun i hi=>(k.cell _ _ h.lt).trans (h.y i hi)⟩
structure Two (w W:World) (a0 a1 b0 b1:Value):Prop where
 gw:Gw w W
 a0:W.cell? ⟨w.heap.size,0,none⟩=some a0
 a1:W.cell? ⟨w.heap.size,1,none⟩=some a1
 b0:W.cell? ⟨w.heap.size+1,0,none⟩=some b0
 b1:W.cell? ⟨w.heap.size+1,1,none⟩=some b1
 size:W.heap.size=w.heap.size+2
theorem two_new (w:World) (t t':TypeId) (a0 a1 b0 b1:Value):Two w ((w.alloc (.cells #[a0,a1] t)).alloc (.cells #[b0,b1] t')).drew a0 a1 b0 b1 :=
 ⟨(((Gw.refl w).alloc _ _).alloc _ _).drew,by simp [go_sem],by simp [go_sem],by simp [go_sem],by simp [go_sem],by simp [go_sem]⟩
theorem cmpi_bd (u v:Int):-1<=cmpi u v/\cmpi u v<=1:=by
 unfold cmpi;split
 ·omega
 ·split<;>omega
theorem touch1_any (p o g m cap bc bp:Nat) (s xa ya xb yb x y:Int) (i:Nat) (hi:i+1<m) (hm:m<100000000) (xa0:0<=xa) (hab:xa<xb) (hbx:xa<x) (xb1:xb<18446744073709551616) (x1:x<18446744073709551616)
  (ya0:-10000000<=ya) (ya1:ya<=10000000) (yb0:-10000000<=yb) (yb1:yb<=10000000) (y0:-10000000<=y) (y1:y<=10000000) (hs:s=1\/s=-1) (w:World)
  (l1:bc<w.heap.size) (l2:bp<w.heap.size) (l3:p<w.heap.size) (l4:g<w.heap.size)
  (h1:w.cell? ⟨bc,0,none⟩=some (.pointer (some ⟨p,o,none⟩))) (h2:w.cell? ⟨bp,0,none⟩=some (.int .u64 x)) (h3:w.cell? ⟨bp,1,none⟩=some (.int .i64 y))
  (h4:w.cell? ⟨p,o,none⟩=some (.int .i64 s)) (h5:w.cell? ⟨p,o+1,none⟩=some (.slice (some ⟨g,0,none⟩) m cap))
  (k1:w.cell? ⟨g,i*2,none⟩=some (.int .u64 xa)) (k2:w.cell? ⟨g,i*2+1,none⟩=some (.int .i64 ya))
  (k3:w.cell? ⟨g,(i+1)*2,none⟩=some (.int .u64 xb)) (k4:w.cell? ⟨g,(i+1)*2+1,none⟩=some (.int .i64 yb)) :
  Calls prog 181 (#[.int .i64 i]++#[.pointer (some ⟨bc,0,none⟩),.pointer (some ⟨bp,0,none⟩)]) w fun e w'=>e=.returned (.bool (decide (s*((y-ya)*(xb-xa))<=s*((yb-ya)*(x-xa)))))/\Gw w w':=by
 have B1:Hid (∀ W,Calls prog 168 #[.agg #[.int .u64 xa,.int .i64 ya],.agg #[.int .u64 x,.int .i64 y]] W fun e w'=>e=.returned (.agg #[.int .i64 (y-ya),.int .u64 (x-xa)])/\Gw W w'):=fun W=>between_any xa ya x y xa0 hbx x1 (by omega) (by omega) (by omega) (by omega) W
 have B2:Hid (∀ W,Calls prog 168 #[.agg #[.int .u64 xa,.int .i64 ya],.agg #[.int .u64 xb,.int .i64 yb]] W fun e w'=>e=.returned (.agg #[.int .i64 (yb-ya),.int .u64 (xb-xa)])/\Gw W w'):=fun W=>between_any xa ya xb yb xa0 hab xb1 (by omega) (by omega) (by omega) (by omega) W
 have B3:Hid (∀ W,Calls prog 170 #[.agg #[.int .i64 (y-ya),.int .u64 (x-xa)],.agg #[.int .i64 (yb-ya),.int .u64 (xb-xa)]] W fun e w'=>e=.returned (.int .i64 (cmpi ((y-ya)*(xb-xa)) ((yb-ya)*(x-xa))))/\Gw W w'):=fun W=>compare_any _ _ _ _ (by omega) (by omega) (by omega) (by omega) (by omega) (by omega) (by omega) (by omega) W
 have R:Hid (decide (cmpi ((y-ya)*(xb-xa)) ((yb-ya)*(x-xa))*s<=0)=decide (s*((y-ya)*(xb-xa))<=s*((yb-ya)*(x-xa)))):=by
  show decide (cmpi ((y-ya)*(xb-xa)) ((yb-ya)*(x-xa))*s<=0)=decide (s*((y-ya)*(xb-xa))<=s*((yb-ya)*(x-xa)));generalize (y-ya)*(xb-xa)=u;generalize (yb-ya)*(x-xa)=v;unfold cmpi;rcases hs with rfl | rfl
  ·split
   ·simp;omega
   ·split
    ·simp;omega
    ·simp;omega
  ·split
   ·simp;omega
   ·split
    ·simp;omega
    ·simp;omega
 have CB:-1<=cmpi ((y-ya)*(xb-xa)) ((yb-ya)*(x-xa))/\cmpi ((y-ya)*(xb-xa)) ((yb-ya)*(x-xa))<=1:=cmpi_bd _ _;generalize cmpi ((y-ya)*(xb-xa)) ((yb-ya)*(x-xa))=r at B3 R CB;have WR:IntKind.i64.wrap (r*s)=r*s:=by
  rw [IntKind.wrap_i64];rcases hs with rfl | rfl<;>omega
 rw [<-R.out];clear R;generalize y-ya=e1 at B1 B3;generalize x-xa=e2 at B1 B3;generalize yb-ya=e3 at B2 B3;generalize xb-xa=e4 at B2 B3;have hin:(i:Int)<m:=by omega
 have hin1:(i:Int)+1<m:=by omega
 have hz:0<=(i:Int)+1:=by omega
 have hw1:IntKind.i64.wrap ((i:Int)+1)=(i:Int)+1:=by rw [IntKind.wrap_i64];omega
 go_enter func181,ntmps181;go_wp2_with fail;go_region
 ·have T:=two_new w 231 231 (.int .u64 xa) (.int .i64 ya) (.int .u64 xb) (.int .i64 yb)
  have T':Hid _:=T;clear T;generalize ((w.alloc (.cells #[.int .u64 xa,.int .i64 ya] 231)).alloc (.cells #[.int .u64 xb,.int .i64 yb] 231)).drew=W at T' ⊢;have q0:=GX.cell T'.out.a0 (by rw [T'.out.size];omega)
  have q1:=GX.cell T'.out.a1 (by rw [T'.out.size];omega)
  have q2:=GX.cell T'.out.b0 (by rw [T'.out.size];omega)
  have q3:=GX.cell T'.out.b1 (by rw [T'.out.size];omega)
  have q4:=GX.cell ((T'.out.gw.cell bc 0 l1).trans h1) (by rw [T'.out.size];omega)
  have q5:=GX.cell ((T'.out.gw.cell bp 0 l2).trans h2) (by rw [T'.out.size];omega)
  have q6:=GX.cell ((T'.out.gw.cell bp 1 l2).trans h3) (by rw [T'.out.size];omega)
  have q7:=GX.cell ((T'.out.gw.cell p o l3).trans h4) (by rw [T'.out.size];omega)
  have N:=GX.some W;clear h1 h2 h3 h4 h5 k1 k2 k3 k4 hin hin1 hw1 hz;go_wp2_with fail;refine wp_region_growx (by kernel_rfl) (by kernel_rfl) ?_
  repeat (go_big_quiet_step (fail))
  go_big_quiet_want;go_big_quiet_op
  go_big_quiet_call (exact growx_of (B1.out _))
  repeat (go_big_quiet_step (fail))
  go_big_quiet_want;go_big_quiet_op
  go_big_quiet_call (exact growx_of (B2.out _))
  repeat (go_big_quiet_step (fail))
  go_big_quiet_want;go_big_quiet_op
  go_big_quiet_call (exact growx_of (B3.out _))
  repeat (go_big_quiet_step (fail))
  refine wpQuiet_nil ?_;rintro _ ⟨g,rfl⟩;go_wp2;go_ret;exact ⟨rfl,T'.out.gw.trans g.2⟩
 ·have T:=two_new w 231 231 (.int .u64 xb) (.int .i64 yb) (.int .u64 xa) (.int .i64 ya)
  have T':Hid _:=T;clear T;generalize ((w.alloc (.cells #[.int .u64 xb,.int .i64 yb] 231)).alloc (.cells #[.int .u64 xa,.int .i64 ya] 231)).drew=W at T' ⊢;have q0:=GX.cell T'.out.a0 (by rw [T'.out.size];omega)
  have q1:=GX.cell T'.out.a1 (by rw [T'.out.size];omega)
  have q2:=GX.cell T'.out.b0 (by rw [T'.out.size];omega)
  have q3:=GX.cell T'.out.b1 (by rw [T'.out.size];omega)
  have q4:=GX.cell ((T'.out.gw.cell bc 0 l1).trans h1) (by rw [T'.out.size];omega)
  have q5:=GX.cell ((T'.out.gw.cell bp 0 l2).trans h2) (by rw [T'.out.size];omega)
  have q6:=GX.cell ((T'.out.gw.cell bp 1 l2).trans h3) (by rw [T'.out.size];omega)
  have q7:=GX.cell ((T'.out.gw.cell p o l3).trans h4) (by rw [T'.out.size];omega)
  have N:=GX.some W;clear h1 h2 h3 h4 h5 k1 k2 k3 k4 hin hin1 hw1 hz;go_wp2_with fail;refine wp_region_growx (by kernel_rfl) (by kernel_rfl) ?_
  repeat (go_big_quiet_step (fail))
  go_big_quiet_want;go_big_quiet_op
  go_big_quiet_call (exact growx_of (B1.out _))
  repeat (go_big_quiet_step (fail))
  go_big_quiet_want;go_big_quiet_op
  go_big_quiet_call (exact growx_of (B2.out _))
  repeat (go_big_quiet_step (fail))
  go_big_quiet_want;go_big_quiet_op
  go_big_quiet_call (exact growx_of (B3.out _))
  repeat (go_big_quiet_step (fail))
  refine wpQuiet_nil ?_;rintro _ ⟨g,rfl⟩;go_wp2;go_ret;exact ⟨rfl,T'.out.gw.trans g.2⟩
structure CH (w:World) (p o g m cap:Nat) (s h:Int) (f:Nat->Int) (n:Nat) (c:Nat->Nat):Prop where
 lp:p<w.heap.size
 c0:w.cell? ⟨p,o,none⟩=some (.int .i64 s)
 c1:w.cell? ⟨p,o+1,none⟩=some (.slice (some ⟨g,0,none⟩) m cap)
 ps:PS w g m (fun i=>f (c i)) (fun i=>(c i:Int)+h)
 ch:Chn f (fun j=>s*(j:Int)) n m c
theorem CH.gw {w w':World} {p o g m cap:Nat} {s h:Int} {f:Nat->Int} {n:Nat} {c:Nat->Nat} (k:CH w p o g m cap s h f n c) (G:Gw w w'):CH w' p o g m cap s h f n c :=
 ⟨Nat.lt_of_lt_of_le k.lp G.size,(G.cell _ _ k.lp).trans k.c0,(G.cell _ _ k.lp).trans k.c1,k.ps.gw G,k.ch⟩
structure KB (f:Nat->Int) (n:Nat):Prop where
 up:Up f n
 bd:∀ i,i<n->0<=f i/\f i<18446744073709551616
 len:n<=3000001
theorem touch_any {p o g m cap:Nat} {s h:Int} {f:Nat->Int} {n:Nat} {c:Nat->Nat} (kb:KB f n) (hs:s=1\/s=-1) (h0:-63<=h) (h1:h<=63) (x y:Int) (hx:f (n-1)<x) (x1:x<18446744073709551616) (y0:-10000000<=y) (y1:y<=10000000) (w:World) (k:CH w p o g m cap s h f n c) :
  Calls prog 171 #[.pointer (some ⟨p,o,none⟩),.agg #[.int .u64 x,.int .i64 y]] w fun e w'=>(∃ t:Nat,e=.returned (.int .i64 t)/\Tch f (fun j=>s*(j:Int)) m c x (s*(y-h)) t)/\Gw w w':=by
 have mp:=k.ch.pos;have ml:=k.ch.len;have nl:=kb.len;obtain ⟨q,hq⟩:∃ q:Nat,m=q+1:=⟨m-1,by omega⟩
 subst hq;have W0:Gw w ((w.alloc (.cells #[.pointer (some ⟨p,o,none⟩)] 244)).alloc (.cells #[.int .u64 x,.int .i64 y] 231)):=((Gw.refl w).alloc _ _).alloc _ _;have SE:Hid (Calls prog 180 #[.int .i64 q,.func (.func 181) #[] #[.pointer (some ⟨w.heap.size,0,none⟩),.pointer (some ⟨w.heap.size+1,0,none⟩)]] ((w.alloc (.cells #[.pointer (some ⟨p,o,none⟩)] 244)).alloc (.cells #[.int .u64 x,.int .i64 y] 231)) fun e w'=>(∃ t:Nat,e=.returned (.int .i64 t)/\Tch f (fun j=>s*(j:Int)) (q+1) c x (s*(y-h)) t)/\Gw w w'):=by
  have blo:∀ i,i<q->(decide (s*((y-((c i:Int)+h))*(f (c (i+1))-f (c i)))<=s*((((c (i+1):Nat):Int)+h-((c i:Int)+h))*(x-f (c i))))=true↔Blo f (fun j=>s*(j:Int)) c x (s*(y-h)) i):=by
   intro i hi;unfold Blo;have e1:s*(y-h)-s*(c i:Int)=s*(y-((c i:Int)+h)):=by rw [<-Int.mul_sub];congr 1;omega
   have e2:s*((c (i+1):Nat):Int)-s*(c i:Int)=s*(((c (i+1):Nat):Int)+h-((c i:Int)+h)):=by rw [<-Int.mul_sub];congr 1;omega
   rw [decide_eq_true_iff];show _↔(s*(y-h)-s*(c i:Int))*_<=(s*((c (i+1):Nat):Int)-s*(c i:Int))*_;rw [e1,e2,Int.mul_assoc,Int.mul_assoc]
  refine (search_any _ q (fun i=>decide (s*((y-((c i:Int)+h))*(f (c (i+1))-f (c i)))<=s*((((c (i+1):Nat):Int)+h-((c i:Int)+h))*(x-f (c i))))) _ (by omega) (fun W GW i hi=>?_) (fun a b hab hb ha=>?_)).mono ?_
  ·have b1:=k.ch.bd (show i<q+1 by omega)
   have b2:=k.ch.bd (show i+1<q+1 by omega)
   have b3:=kb.bd _ b1;have b4:=kb.bd _ b2;have b5:=kb.up.lt (k.ch.up i (by omega)) b2
   have b6:=kb.up.le (show c i<=n-1 by omega) (by omega)
   have GG:=W0.trans GW;have kk:=k.gw GG;have sz:=GW.size;simp at sz;exact touch1_any p o g (q+1) cap w.heap.size (w.heap.size+1) s (f (c i)) ((c i:Int)+h) (f (c (i+1))) (((c (i+1):Nat):Int)+h) x y i (by omega) (by omega) b3.1 b5 (by omega) b4.2 x1 (by omega) (by omega) (by omega) (by omega) y0 y1 hs W (by omega) (by omega) kk.lp kk.ps.lt
    ((GW.cell _ _ (by simp;omega)).trans (by simp [go_sem])) ((GW.cell _ _ (by simp)).trans (by simp [go_sem])) ((GW.cell _ _ (by simp)).trans (by simp [go_sem])) kk.c0 kk.c1 (kk.ps.x i (by omega)) (kk.ps.y i (by omega)) (kk.ps.x (i+1) (by omega)) (kk.ps.y (i+1) (by omega))
  ·exact (blo b hb).2 (k.ch.mono kb.up hx hab (by omega) ((blo a (by omega)).1 ha))
  ·rintro e w' ⟨⟨t,rfl,tq,lo,hi⟩,G⟩
   refine ⟨⟨t,rfl,by omega,fun i hi=>?_,fun i h1 h2=>(blo i (by omega)).1 (hi i h1 (by omega))⟩,W0.trans G⟩
   intro hb;have:=(blo i (by omega)).2 hb
   rw [lo i hi] at this;cases this
 have cc:=k.c1;have lp:=k.lp;have QQ:IntKind.i64.wrap (((q+1:Nat):Int)-1)=q:=by rw [IntKind.wrap_i64];omega
 have QQ2:((q+1:Nat):Int)-1=q:=by omega
 clear k W0 kb;go_enter func171,ntmps171;go_wp2_with fail;refine SE.out.mono ?_;rintro e w1 ⟨⟨t,rfl,ht⟩,g1⟩;have HT:Hid _:=ht;have G1:Hid _:=g1;clear ht g1;go_wp2;go_ret;exact ⟨⟨t,rfl,HT.out⟩,G1.out⟩
theorem touched_any {p o g m cap:Nat} {s h:Int} {f:Nat->Int} {n:Nat} {c:Nat->Nat} (kb:KB f n) (hs:s=1\/s=-1) (h0:-63<=h) (h1:h<=63) (x y:Int) (hx:f (n-1)<x) (x1:x<18446744073709551616) (y0:-10000000<=y) (y1:y<=10000000) (w:World) (k:CH w p o g m cap s h f n c) :
  Calls prog 169 #[.pointer (some ⟨p,o,none⟩),.agg #[.int .u64 x,.int .i64 y]] w fun e w'=>(∃ t:Nat,e=.returned (.agg #[.int .u64 (f (c t)),.int .i64 ((c t:Int)+h)])/\Tch f (fun j=>s*(j:Int)) m c x (s*(y-h)) t)/\Gw w w':=by
 have G0:Gw w ((w.alloc (.cells #[.int .u64 x,.int .i64 y] 231)).alloc (.cells #[.int .u64 0,.int .i64 0] 231)):=((Gw.refl w).alloc _ _).alloc _ _;have TA:Hid (∀ W,Gw w W->Calls prog 171 #[.pointer (some ⟨p,o,none⟩),.agg #[.int .u64 x,.int .i64 y]] W fun e w'=>(∃ t:Nat,e=.returned (.int .i64 t)/\Tch f (fun j=>s*(j:Int)) m c x (s*(y-h)) t)/\Gw W w'):=fun W G=>touch_any kb hs h0 h1 x y hx x1 y0 y1 W (k.gw G)
 have FX:Hid (∀ W,Gw ((w.alloc (.cells #[.int .u64 x,.int .i64 y] 231)).alloc (.cells #[.int .u64 0,.int .i64 0] 231)) W->CH W p o g m cap s h f n c/\Bx W (w.heap.size+1) 231 (.int .u64 0) (.int .i64 0)/\Gw w W):=fun W G=>⟨k.gw (G0.trans G),((Bx.new _ _ _ _).at (by simp)).gw G,G0.trans G⟩
 have KM:m<100000000:=by have:=k.ch.len;have:=kb.len;omega
 have cc:=k.c1;have lp:=k.lp;clear k G0 kb;go_enter func169,ntmps169;go_wp2_with fail;go_region_with (go_at_call 171;refine (TA.out _ (((Gw.refl w).alloc _ _).alloc _ _).drew).mono ?_;rintro e w4 ⟨⟨t,rfl,ht⟩,g4⟩;obtain ⟨F1,F2,F3⟩:=FX.out w4 ((Gw.drew (Gw.refl _)).trans g4);have j1:=F1.c1;have j2:=F1.ps.x t ht.lt;have j3:=F1.ps.y t ht.lt;have j4:=F2.c0;have j5:=F2.c1;have j6:=F2.fz 0;have j7:=F2.fz 1;have j8:(t:Int)<m:=(by have:=ht.lt;omega);have F1':Hid (CH w4 p o g m cap s h f n c):=F1;have F2':Hid (Bx w4 (w.heap.size+1) 231 (.int .u64 0) (.int .i64 0)):=F2;have F3':Hid (Gw w w4):=F3;have ht':Hid (Tch f (fun j=>s*(j:Int)) m c x (s*(y-h)) t):=ht;clear F1 F2 F3 ht g4)
 all_goals
  clear j1 j2 j3 j4 j5 j6 j7 j8 cc;have Y:=F2'.out.set (.int .u64 (f (c t))) (.int .i64 ((c t:Int)+h));have y0':=Y.c0;have y1':=Y.c1;have FG:Hid (Gw w ((w4.setCell ⟨w.heap.size+1,0,none⟩ (.int .u64 (f (c t)))).setCell ⟨w.heap.size+1,1,none⟩ (.int .i64 ((c t:Int)+h)))):=(F3'.out.setCell (by simp) _).setCell (by simp) _
  clear Y;go_wp2;refine bodyPost_ret (v:=.agg #[.int .u64 (f (c t)),.int .i64 ((c t:Int)+h)]) (by simp [results,results169,go_sem,y0',y1']) rfl ⟨⟨t,rfl,ht'.out⟩,FG.out⟩
theorem last_any {p o g m cap:Nat} {s h:Int} {f:Nat->Int} {n:Nat} {c:Nat->Nat} (kb:KB f n) (w:World) (k:CH w p o g m cap s h f n c) :
  Calls prog 156 #[.pointer (some ⟨p,o,none⟩)] w fun e w'=>e=.returned (.agg #[.int .u64 (f (n-1)),.int .i64 (((n-1:Nat):Int)+h)])/\Gw w w':=by
 have KM:m<100000000:=by have:=k.ch.len;have:=kb.len;omega
 obtain ⟨q,hq⟩:∃ q:Nat,m=q+1:=⟨m-1,by have:=k.ch.pos;omega⟩
 subst hq;have cl:c q=n-1:=by have:=k.ch.last;rw [show q+1-1=q by omega] at this;omega
 have cc:=k.c1;have lp:=k.lp;have lg:=k.ps.lt;have k2:=k.ps.x q (by omega)
 have k3:=k.ps.y q (by omega)
 rw [cl] at k2 k3;generalize f (n-1)=fx at k2 ⊢;generalize ((n-1:Nat):Int)+h=fy at k3 ⊢;have QQ:IntKind.i64.wrap (((q+1:Nat):Int)-1)=q:=by rw [IntKind.wrap_i64];omega
 have Q1:(q:Int)<q+1:=by omega
 clear k kb cl;go_enter func156,ntmps156;go_wp2_with fail;go_region
 all_goals
  go_wp2
  refine bodyPost_ret (v:=.agg #[.int .u64 fx,.int .i64 fy]) (by simp [results,results156,go_sem]) rfl ⟨rfl,?_⟩
  first
   | exact ((Gw.refl w).alloc _ _).drew
   | exact ((((Gw.refl w).alloc _ _).drew).setCell (by simp) _).setCell (by simp) _
end Go.Proofs.YtemijdhemdhclaaGreat
