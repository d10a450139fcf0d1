import Derived.Test.YtaemofgeciklkaaGreatEPVo
import Derived.Test.YtaemofgeciklkaaGreatER4Add
set_option linter.unusedVariables false
set_option maxHeartbeats 4000000
set_option maxRecDepth 10000
open Go.Proofs.Tryz
namespace Go.Proofs.YtaemofgeciklkaaGreat
structure BJ (eps:Int) (f:Nat->Int) (n:Nat) (l:List Sg):Prop where
 up:Up f n
 bd:∀ t,t<n->0<=f t/\f t<18446744073709551616
 tl:dK n 0 l=true
 ne:l≠[]
 ok:∀ s∈l,jU eps f s=0
def bF (f:Nat->Int) (L:List (List Sg)) (j:Nat):Nat->Int:=if j=0 then f else bu (L.getD (j-1) [])
def bK (n:Nat) (L:List (List Sg)) (j:Nat):Nat:=if j=0 then n else (L.getD (j-1) []).length
variable {eps:Int}
theorem ab0:∀ {L:List (List Sg)} {f:Nat->Int} {n:Nat},Up f n->(∀ t,t<n->0<=f t/\f t<18446744073709551616)->mX eps f n L=0->(∀ i,i<L.length->BJ eps (bF f L i) (bK n L i) (L.getD i []))/\(L≠[]->(L.getD (L.length-1) []).length=1):=by
 intro L;induction L with
 | nil=>intro f n _ _ _;exact ⟨fun i hi=>by simp at hi,fun h=>absurd rfl h⟩
 | cons l r ih =>
  intro f n u bd h;unfold mX at h;by_cases t:(dK n 0 l&&!l.isEmpty)=false
  ·rw [Ym t] at h;omega
  ·rw [Yl t] at h
   have t':dK n 0 l=true/\l≠[]:=by
    have:(dK n 0 l&&!l.isEmpty)=true:=by simpa using t
    rw [Bool.and_eq_true] at this;refine ⟨this.1,fun e=>?_⟩
    rw [e] at this;simp at this
   by_cases z:eR eps f l=0
   ·rw [Yl (fun q=>q z)] at h
    have K:BJ eps f n l:=⟨u,bd,t'.1,t'.2,Gm.1 z⟩;obtain ⟨u1,_,u3⟩:=pE u t'.1 (fun s hs=>(mW.1 (K.ok s hs)).2.1)
    by_cases e:r=[]
    ·subst e
     rw [Ym rfl] at h;by_cases o:l.length=1
     ·refine ⟨fun i hi=>?_,fun _=>o⟩
      have:i=0:=by simp at hi;omega
      subst this;exact K
     ·rw [Yl o] at h;omega
    ·rw [Yl e] at h
     obtain ⟨a,b⟩:=ih u1 (Bk bd u3) h;have rl:=qbi.2 e;refine ⟨fun i hi=>?_,fun _=>?_⟩
     ·cases i with
      | zero=>exact K
      | succ i =>
       have:=a i (by simpa using hi)
       have e1:bF f (l::r) (i+1)=bF (bu l) r i:=by
        unfold bF;rw [Yl ω];cases i with
        | zero=>rw [Ym rfl];rfl
        | succ i=>rw [Yl ω];rfl
       have e2:bK n (l::r) (i+1)=bK l.length r i:=by
        unfold bK;rw [Yl ω];cases i with
        | zero=>rw [Ym rfl];rfl
        | succ i=>rw [Yl ω];rfl
       rw [e1,e2];exact this
     ·rw [qak,show r.length+1-1=(r.length-1)+1 by omega]
      exact b e
   ·rw [Ym z] at h;exact absurd h z
def rs (f:Nat->Int) (n:Nat) (q:Int):Nat:=if aB f q n<n/\f (aB f q n)=q then aB f q n else aB f q n-1
variable {f:Nat->Int} {n:Nat}
theorem PH (u:Up f n) (n0:0<n) (q:Int):rs f n q<n/\(rs f n q=0\/f (rs f n q)<=q)/\∀ t,rs f n q<t->t<n->q<f t:=by
 obtain ⟨a,b⟩:=qU u q n (Yk _);have le:=pD f q n;unfold rs;by_cases h:aB f q n<n/\f (aB f q n)=q
 ·rw [Ym h]
  refine ⟨h.1,.inr ω,fun t h1 h2=>?_⟩
  have:=u.lt h1 h2
  omega
 ·rw [Yl h]
  refine ⟨ω,?_,fun t h1 h2=>?_⟩
  ·by_cases c:aB f q n=0
   ·exact .inl ω
   ·have:=a (aB f q n-1) ω
    exact .inr ω
  ·have k:=b t ω h2
   by_cases c:t=aB f q n
   ·subst c
    have:f (aB f q n)≠q:=fun e=>h ⟨h2,e⟩
    omega
   ·have c1:aB f q n<n:=(by omega);have k1:=b (aB f q n) (Yk _) c1;have k2:=u.lt (show aB f q n<t by omega) h2
    omega
structure PI (eps:Int) (f:Nat->Int) (n:Nat) (s:Sg) (q:Int):Prop where
 e0:cG s.sl s.ic s.fr s.te=0
 lo:s.fr<=aB f q n
 hi:(aB f q n:Int)<=s.te
 ten:s.te<=n
 far:-(eps+1)<=dh s.k s.sl s.ic s.fr s.te q-aB f q n/\dh s.k s.sl s.ic s.fr s.te q-aB f q n<=eps+1
 aiq:(aB f q n<n/\f (aB f q n)=q)->-eps<=dh s.k s.sl s.ic s.fr s.te q-aB f q n/\dh s.k s.sl s.ic s.fr s.te q-aB f q n<=eps
 there:((aB f q n:Int)<s.te/\f (aB f q n)=q)↔(aB f q n<n/\f (aB f q n)=q)
 next:¬ ((aB f q n:Int)<s.te/\f (aB f q n)=q)->max ((aB f q n:Int)-1) s.fr=rs f n q
theorem ab1 {l:List Sg} (h:BJ eps f n l) (q:Int) (q1:q<18446744073709551616):PI eps f n (l.getD (rs (bu l) l.length q) aF) q:=by
 have l0:=qbi.2 h.ne;obtain ⟨u1,_,_⟩:=pE h.up h.tl (fun s hs=>(mW.1 (h.ok s hs)).2.1)
 obtain ⟨r1,r2,r3⟩:=PH u1 l0 q;generalize rs (bu l) l.length q=t at r1 r2 r3;obtain ⟨s,hs⟩:=qbr (l.getD t aF);have T:=Gp h.tl t r1;have mem:s∈l:=by rw [<-hs,qag,qah r1];exact qaz r1
 obtain ⟨er,hk,_⟩:=mW.1 (h.ok s mem);have N:=abB h.up h.bd h.tl h.ok q q1 t r1 r2 r3 s hs;rw [hs] at T ⊢;obtain ⟨T1,T2,T3,T4,T5,T6⟩:=T;obtain ⟨c1,c2⟩:=qU h.up q n (Yk _);have cl:=pD f q n;have fk:bu l t=f s.fr.toNat:=by show (l.getD t aF).k=_;rw [hs];exact hk
 have xZ:∀ i:Nat,s.te<=(i:Int)->i<n->q<f i:=fun i h1 h2=>by
  by_cases c:t+1<l.length
  ·have e:=T5 c
   have m':l.getD (t+1) aF∈l:=(by rw [qag,qah c];exact qaz c);have k':=(mW.1 (h.ok _ m')).2.1;have lt:=r3 (t+1) ω c;have e2:bu l (t+1)=f s.te.toNat:=(by show (l.getD (t+1) aF).k=_;rw [k',e]);rw [e2] at lt;have:=h.up.le (show s.te.toNat<=i by omega) h2
   omega
  ·have:=T6 ω
   omega
 have lo:s.fr<=aB f q n:=by
  rcases r2 with z | z
  ·have:=T4 z;omega
  ·rw [fk] at z
   by_cases c:s.fr<=(aB f q n:Int)
   ·exact c
   ·exfalso
    have x:=c2 (aB f q n) (Yk _) ω;have y:=h.up.lt (show aB f q n<s.fr.toNat by omega) ω
    omega
 have hi:(aB f q n:Int)<=s.te:=by
  by_cases c:(aB f q n:Int)<=s.te
  ·exact c
  ·exfalso
   have x:=c1 s.te.toNat ω;have y:=xZ s.te.toNat ω ω;omega
 have th:((aB f q n:Int)<s.te/\f (aB f q n)=q)↔(aB f q n<n/\f (aB f q n)=q):=by
  constructor
  ·exact fun x=>⟨ω,x.2⟩
  ·intro x
   refine ⟨?_,x.2⟩;by_cases c:(aB f q n:Int)<s.te
   ·exact c
   ·have:=xZ (aB f q n) ω x.1
    omega
 refine ⟨er,lo,hi,T3,N.1,fun x=>N.2 ⟨_,x.1,x.2⟩,th,fun x=>?_⟩
 have nx:¬ (aB f q n<n/\f (aB f q n)=q):=fun y=>x (th.2 y)
 unfold rs;rw [Yl nx];by_cases c:(aB f q n:Int)=s.fr
 ·
  have z:aB f q n=0:=by
   rcases r2 with z | z
   ·have:=T4 z;omega
   ·exfalso
    rw [fk] at z;have e:s.fr.toNat=aB f q n:=ω;rw [e] at z;have:=c2 (aB f q n) (Yk _) ω;exact nx ⟨ω,ω⟩
  omega
 ·omega
theorem ab2 (f:Nat->Int) (q:Int):rs f 1 q=0:=by
 have:=pD f q 1
 unfold rs;split<;>omega
structure iY where
 lv:Int
 sl:Int
 gu:Int
 lo:Int
 hi:Int
 rk:Int
def jJ (q:Int) (L:List (List Sg)) (i:Nat):Nat:=rs (bu (L.getD i [])) (L.getD i []).length q
def dV (q:Int) (L:List (List Sg)) (i:Nat):Sg:=(L.getD i []).getD (jJ q L i) aF
def jK (q:Int) (L:List (List Sg)) (i:Nat):Int:=dh (dV q L i).k (dV q L i).sl (dV q L i).ic (dV q L i).fr (dV q L i).te q
def fT (eps q:Int) (f:Nat->Int) (n:Nat) (L:List (List Sg)) (i:Nat):iY :=
 ⟨i,jJ q L i,jK q L i,max (dV q L i).fr (jK q L i-eps-1),min (dV q L i).te (jK q L i+eps+1),aB (bF f L i) q (bK n L i)⟩
def Hh (eps q:Int) (f:Nat->Int) (n:Nat) (L:List (List Sg)):List iY:=(List.range L.length).map fun j=>fT eps q f n L (L.length-1-j)
structure kX (eps:Int) (f:Nat->Int) (n:Nat) (L:List (List Sg)):Prop where
 lvl:∀ i,i<L.length->BJ eps (bF f L i) (bK n L i) (L.getD i [])
 top:L≠[]->(L.getD (L.length-1) []).length=1
section
variable {eps q:Int} {f:Nat->Int} {n:Nat} {L:List (List Sg)}
variable {i:Nat}
theorem kX.vis (h:kX eps f n L) (q1:q<18446744073709551616) (hi:i<L.length):PI eps (bF f L i) (bK n L i) (dV q L i) q:=ab1 (h.lvl i hi) q q1
theorem kX.slot (h:kX eps f n L) (hi:i<L.length):jJ q L i<(L.getD i []).length:=by
 have K:=h.lvl i hi;obtain ⟨u1,_,_⟩:=pE K.up K.tl (fun s hs=>(mW.1 (K.ok s hs)).2.1)
 exact (PH u1 (qbi.2 K.ne) q).1
theorem kX.slot_top (h:kX eps f n L) (h0:0<L.length):jJ q L (L.length-1)=0:=by
 unfold jJ;rw [h.top (fun e=>by rw [e] at h0;simp at h0)]
 exact ab2 _ _
theorem ab3 (i:Nat):jJ q L i=rs (bF f L (i+1)) (bK n L (i+1)) q:=by unfold jJ bF bK;rw [Yl ω,Yl ω];rfl
theorem kX.window (h:kX eps f n L) (q1:q<18446744073709551616) (hi:i<L.length):(fT eps q f n L i).lo<=(fT eps q f n L i).rk/\(fT eps q f n L i).rk<=(fT eps q f n L i).hi:=by have V:=h.vis (q:=q) q1 hi;have a:=V.lo;have b:=V.hi;have c:=V.far;show max (dV q L i).fr (jK q L i-eps-1)<=(aB (bF f L i) q (bK n L i):Int)/\(aB (bF f L i) q (bK n L i):Int)<=min (dV q L i).te (jK q L i+eps+1);unfold jK;omega
theorem kX.below (h:kX eps f n L) (hi:i<L.length):(∀ r,r<aB (bF f L i) q (bK n L i)->bF f L i r<q)/\∀ r,aB (bF f L i) q (bK n L i)<=r->r<bK n L i->q<=bF f L i r :=
 qU (h.lvl i hi).up q _ (Yk _)
theorem kX.bounds (h:kX eps f n L) (q1:q<18446744073709551616) (hi:i<L.length):0<=(dV q L i).fr/\(dV q L i).fr<(dV q L i).te/\(dV q L i).te<=4294967296/\(dV q L i).te<=bK n L i/\(dV q L i).fr<=jK q L i/\jK q L i<=(dV q L i).te/\0<=(dV q L i).k:=by
 have V:=h.vis (q:=q) q1 hi;obtain ⟨a,b,c,d,e⟩:=om.1 V.e0;have K:=h.lvl i hi;have sl:=h.slot (q:=q) hi;have mem:dV q L i∈L.getD i []:=by unfold dV;generalize L.getD i []=l at sl;rw [qag,qah sl];exact qaz sl
 have kk:=(mW.1 (K.ok _ mem)).2.1;have k0:0<=(dV q L i).k:=by rw [kk];exact (K.bd _ (by have:=V.ten;omega)).1
 have g:=Bf (q:=q) V.e0 k0 q1;exact ⟨a,b,c,V.ten,g.1,g.2,k0⟩
end
structure BM (eps q:Int) (f:Nat->Int) (n:Nat) (L:List (List Sg)) (A B:List (Int×Int)):Prop where
 an:A.Nodup
 ain:∀ a∈A,∃ i,i<L.length/\a.1=i/\(fT eps q f n L i).lo<=a.2/\a.2<=(fT eps q f n L i).hi/\a.2<(dV q L i).te
 bn:B.Nodup
 bl:B.length=L.length
 bin:∀ b∈B,∃ i,i<L.length/\b.1=(i:Int)+1/\b.2=jJ q L i
open Go.RowKit
abbrev PJ (v:iY):Value:=.agg #[By v.lv,By v.sl,By v.gu,By v.lo,By v.hi,By v.rk]
structure PK (w:World) (b off:Nat) (v:iY):Prop where
 c0:w.cell? (φ b off)=some (By v.lv)
 c1:w.cell? (φ b (off+1))=some (By v.sl)
 c2:w.cell? (φ b (off+2))=some (By v.gu)
 c3:w.cell? (φ b (off+3))=some (By v.lo)
 c4:w.cell? (φ b (off+4))=some (By v.hi)
 c5:w.cell? (φ b (off+5))=some (By v.rk)
def PV (HP:World->Nat->(Nat->Prop)->Int->(Nat->Int)->Nat->List (List Sg)->Prop) (w w':World) (ex:Ending) (eps:Int) (f:Nat->Int) (n:Nat) (L:List (List Sg)):Prop :=
 ∃ E,jV eps f n L E/\((E≠0/\ex=π #[.pointer none,By E])\/(E=0/\∃ p S,ex=π #[IS p,By 0]/\(∀ q,S q->w.heap.size<=q)/\HP w' p S eps f n L))
def yp (f:Nat->Int) (n:Nat) (q:Int):Value:=.tuple #[By (aB f q n:Nat),.bool (decide (aB f q n<n/\f (aB f q n)=q))]
structure oz (eps:Int) (f:Nat->Int) (n:Nat) (L:List (List Sg)):Prop where
 e0:2<=eps
 e1:eps<=64
 lv:kX eps f n L
 z:L.length=0↔n=0
 n1:n<=2000000
 sh:ou L
variable {eps:Int} {f:Nat->Int} {n:Nat} {L:List (List Sg)}
theorem oz.of (h:jV eps f n L 0) (n1:n<=2000000) (sh:ou L) (bd:∀ t,t<n->0<=f t/\f t<18446744073709551616):oz eps f n L:=by
 rcases h with ⟨_,q⟩ | ⟨_,_,q⟩ | ⟨_,_,_,q⟩ | ⟨a,b,c,q⟩
 ·cases q
 ·cases q
 ·cases q
 ·have:=ab0 b bd q.symm
  exact ⟨a.1,a.2,⟨this.1,this.2⟩,c.2,n1,sh⟩
def fU (n:Nat) (L:List (List Sg)) (lv:Int):Nat:=if 0<=lv/\lv<=L.length then bK n L lv.toNat else 0
def tz (f:Nat->Int) (n:Nat) (L:List (List Sg)) (lv sl:Int):Int:=if (0<=lv/\lv<=L.length)/\0<=sl/\sl<bK n L lv.toNat then bF f L lv.toNat sl.toNat else 0
def jX (L:List (List Sg)) (lv sl:Int):Sg:=if (1<=lv/\lv<=L.length)/\0<=sl/\sl<(L.getD (lv.toNat-1) []).length then (L.getD (lv.toNat-1) []).getD sl.toNat aF else aF
variable {i:Nat}
theorem ab4 (u:Up f n) (hi:i<n):aB f (f i) n=i:=by
 obtain ⟨a,b⟩:=qU u (f i) n (Yk _);have le:=pD f (f i) n;rcases Nat.lt_trichotomy (aB f (f i) n) i with c | c | c
 ·have x:=b _ (Yk _) ω
  have y:=u.lt c hi;omega
 ·exact c
 ·have:=a i c
  omega
end Go.Proofs.YtaemofgeciklkaaGreat
namespace Go.Proofs.YtaemofgeciklkaaGreat
open Go.RowKit
attribute [local go_sem] iV
structure fF (w:World) (p:Nat) (S:Nat->Prop) (eps:Int) (f:Nat->Int) (n:Nat) (L:List (List Sg)):Prop where
 lies:∃ (u:World) (base:Nat) (ko:Option Addr) (kc:Nat) (lo:Option Addr) (lc:Nat),(∀ q,S q↔base<=q/\q<u.heap.size)/\u.heap.size<=w.heap.size/\(∀ q,base<=q->q<u.heap.size->w.heap[q]?=u.heap[q]?)/\u.heap[p]?=some (.cells #[By eps,.slice ko n kc,.slice lo L.length lc] 149 (0,0))/\base<=p/\KS u ko n f/\(∀ a,ko=some a->base<=a.block)/\iG u base lo L
 n1:n<=2000000
 sh:ou L
variable {w:World} {p n:Nat} {S:Nat->Prop} {eps:Int} {f:Nat->Int} {L:List (List Sg)}
theorem fF.lt (h:fF w p S eps f n L):∀ q,S q->q<w.heap.size:=by obtain ⟨u,base,ko,kc,lo,lc,h1,h2,_⟩:=h.lies;intro q hq;have:=(h1 q).1 hq;omega
theorem fF.keep {w':World} (h:fF w p S eps f n L) (k:∀ q,S q->w'.heap[q]?=w.heap[q]?):fF w' p S eps f n L:=by
 obtain ⟨u,base,ko,kc,lo,lc,h1,h2,h3,h4,h5,h6⟩:=h.lies;have pu:p<u.heap.size:=(qab.1 h4).1;refine ⟨⟨u,base,ko,kc,lo,lc,h1,?_,fun q a b=>(k q ((h1 q).2 ⟨a,b⟩)).trans (h3 q a b),h4,h5,h6⟩,h.n1,h.sh⟩
 have e:=k (u.heap.size-1) ((h1 _).2 ⟨ω,ω⟩);rw [Array.getElem?_eq_getElem (show u.heap.size-1<w.heap.size by omega)] at e
 have:=(qab.1 e).1
 omega
theorem fF.opened (h:fF w p S eps f n L):∃ ko kc lo lc,w.heap[p]?=some (.cells #[By eps,.slice ko n kc,.slice lo L.length lc] 149 (0,0))/\KS w ko n f/\VS w lo L:=by
 obtain ⟨u,base,ko,kc,lo,lc,h1,h2,h3,h4,h5,h6,h7,h8⟩:=h.lies;have pu:p<u.heap.size:=(qab.1 h4).1;refine ⟨ko,kc,lo,lc,(h3 p h5 pu).trans h4,⟨fun hn=>?_,h6.bd⟩,(h8.keep (fun q a b=>h3 q a b) h2).vs⟩
 obtain ⟨b,off,e,hb,hc⟩:=h6.cells hn;have bb:base<=b:=h7 _ e;exact ⟨b,off,e,ω,fun i hi=>(qba (a:=⟨b,off+i,none⟩) (h3 b bb hb)).trans (hc i hi)⟩
theorem tB {a b c:Value} {t:TypeId} (h:w.heap[p]?=some (.cells #[a,b,c] t (0,0))):w.cell? (φ p 0)=some a/\w.cell? (φ p 1)=some b/\w.cell? (φ p 2)=some c:=by refine ⟨?_,?_,?_⟩<;>simp [World.cell?,h]
theorem Hi (h:fF w p S eps f n L) :
  Calls prog 62 #[IS p] w fun e w'=>e=χ (By eps)/\w'=w:=by
 obtain ⟨ko,kc,lo,lc,h1,_⟩:=h.opened;obtain ⟨c0,c1,c2⟩:=tB h1;clear h h1;go_enter func62,ntmps62;go_wp2_with fail;go_ret;exact ⟨rfl,rfl⟩
theorem PX (h:fF w p S eps f n L) :
  Calls prog 97 #[IS p] w fun e w'=>e=χ (By (L.length:Int))/\w'=w:=by
 obtain ⟨ko,kc,lo,lc,h1,_⟩:=h.opened;obtain ⟨c0,c1,c2⟩:=tB h1;clear h h1;go_enter func97,ntmps97;go_wp2_with fail;go_ret;exact ⟨rfl,rfl⟩
theorem PY (h:fF w p S eps f n L) (lv:Int) (l0:-9223372036854775808<=lv) (l1:lv<9223372036854775808) :
  Calls prog 117 #[IS p,By lv] w fun e w'=>e=χ (By (fU n L lv:Nat))/\w'=w:=by
 obtain ⟨ko,kc,lo,lc,h1,hk,hv⟩:=h.opened;obtain ⟨c0,c1,c2⟩:=tB h1;have pl:p<w.heap.size:=(qab.1 h1).1;have hl:=h.sh.1;obtain ⟨ln,ax⟩:=qbr L.length;have LN:ag _:=ax;rw [ax] at c2 hl;have HV:ag _:=hv;clear h h1 hk hv ax;by_cases z:lv=0
 ·have e:fU n L lv=n:=by rw [z];unfold fU;rw [Ym ⟨qaH _,ω⟩];rfl
  have t0:(lv == 0)=true:=by simpa using z
  rw [e];clear e z;go_enter func117,ntmps117;go_wp2_with fail;go_ret;exact ⟨rfl,rfl⟩
 ·have t0:(lv == 0)=false:=by simpa using z
  by_cases a:lv<0
  ·have e:fU n L lv=0:=(by unfold fU;rw [Yl (fun x=>by have:=x.1;omega)]);have t1:decide (lv<0)=true:=(by simpa using a);rw [e];clear e z;go_enter func117,ntmps117;go_wp2_with fail;go_ret;exact ⟨rfl,rfl⟩
  ·have t1:decide (lv<0)=false:=(by simpa using a);by_cases b:(ln:Int)<lv
   ·have e:fU n L lv=0:=(by unfold fU;rw [Yl (fun x=>by have:=x.2;rw [LN.o] at this;omega)]);have t2:decide ((ln:Int)<lv)=true:=(by simpa using b);rw [e];clear e z;go_enter func117,ntmps117;go_wp2_with fail;go_ret;exact ⟨rfl,rfl⟩
   ·obtain ⟨i,hi⟩:∃ i:Nat,lv=(i:Int)+1:=⟨(lv-1).toNat,ω⟩
    have e:fU n L lv=(L.getD i []).length:=by
     unfold fU;rw [Ym ⟨ω,by rw [LN.o];omega⟩,show lv.toNat=i+1 by omega]
     rfl
    have t2:decide ((ln:Int)<lv)=false:=(by simpa using b);have w1:IntKind.i64.wrap (lv-1)=(i:Int):=(by rw [Δ];omega);obtain ⟨lb,lf,rfl,dO,bL⟩:=HV.o.cells (by rw [LN.o];omega)
    obtain ⟨so,sc,q1,_,_,_⟩:=bL i (by rw [LN.o];omega)
    have il:i<ln:=ω;have Hj:(i:Int)<(ln:Int):=ω;rw [e];generalize (L.getD i []).length=sn at q1 ⊢;clear e z bL hi;go_enter func117,ntmps117;go_wp2_with fail;go_ret;exact ⟨rfl,rfl⟩
theorem PZ (h:fF w p S eps f n L) (lv sl:Int) (l0:-9223372036854775808<=lv) (l1:lv<9223372036854775808) :
  Calls prog 133 #[IS p,By lv,By sl] w fun e w'=>e=χ (.bool (decide (0<=sl/\sl<(fU n L lv:Nat))))/\w'=w:=by
 have SZ:ag _:=PY h lv l0 l1;clear h;generalize fU n L lv=z at SZ ⊢;by_cases a:0<=sl
 ·have t1:decide (0<=sl)=true:=by simpa using a
  have e:decide (0<=sl/\sl<(z:Int))=decide (sl<(z:Int)):=by
   by_cases b:sl<(z:Int)
   ·rw [qaF b,qaF ⟨a,b⟩]
   ·rw [qan b,qan (fun x=>b x.2)]
  rw [e];obtain ⟨d,hd⟩:=qbr (decide (sl<(z:Int)));rw [hd];clear e;go_enter func133,ntmps133;go_wp2_with fail;refine Calls.mono SZ.o ?_;rintro e w2 ⟨rfl,hw⟩;have eJ:w=w2:=hw.symm;subst eJ;clear hw SZ;go_wp2_with fail;go_ret;exact ⟨rfl,rfl⟩
 ·have t1:decide (0<=sl)=false:=by simpa using a
  rw [qan (fun x=>a x.1)]
  go_enter func133,ntmps133;go_wp2_with fail;go_ret;exact ⟨rfl,rfl⟩
theorem Hk (h:fF w p S eps f n L) (lv sl:Int) (l0:-9223372036854775808<=lv) (l1:lv<9223372036854775808) (s0:-9223372036854775808<=sl) (s1:sl<9223372036854775808) :
  Calls prog 118 #[IS p,By lv,By sl] w fun e w'=>e=χ (OH (jX L lv sl))/\Gw w w':=by
 have HA:ag (Calls prog 133 #[IS p,By lv,By sl] (w.alloc (.cells #[BY 0,.float .f64 0,.float .f64 0,By 0,By 0] 174)) fun e w'=>e=χ (.bool (decide (0<=sl/\sl<(fU n L lv:Nat))))/\w'=(w.alloc (.cells #[BY 0,.float .f64 0,.float .f64 0,By 0,By 0] 174))):=PZ (h.keep fun q hq=>qap w _ (h.lt q hq)) lv sl l0 l1
 obtain ⟨ko,kc,lo,lc,h1,hk,hv⟩:=h.opened;obtain ⟨c0,c1,c2⟩:=tB h1;have pl:p<w.heap.size:=(qab.1 h1).1;have hl:=h.sh.1;obtain ⟨ln,ax⟩:=qbr L.length;have LN:ag _:=ax;rw [ax] at c2 hl;have HV:ag _:=hv;clear h h1 hk hv ax;by_cases z:lv=0
 ·have e:jX L lv sl=aF:=by unfold jX;rw [Yl (fun x=>by have:=x.1.1;omega)]
  have t0:(lv == 0)=true:=by simpa using z
  rw [e];show Calls _ _ _ _ fun e w'=>e=χ (.agg #[BY 0,.float .f64 0,.float .f64 0,By 0,By 0])/\Gw w w'
  clear e z HA;go_enter func118,ntmps118;go_wp2_with fail;exact bodyPost_ret (v:=.agg #[BY 0,.float .f64 0,.float .f64 0,By 0,By 0]) (by simp [results,results118,go_sem]) rfl ⟨rfl,(Gw.refl w).alloc _ _⟩
 ·have t0:(lv == 0)=false:=by simpa using z
  by_cases a:0<=sl/\sl<(fU n L lv:Nat)
  ·rw [qaF a] at HA
   have b:0<=lv/\lv<=L.length:=by
    by_cases x:0<=lv/\lv<=L.length
    ·exact x
    ·have:=a.2;unfold fU at this;rw [Yl x] at this;omega
   rw [LN.o] at b;obtain ⟨i,hi⟩:∃ i:Nat,lv=(i:Int)+1:=⟨(lv-1).toNat,ω⟩;have e:fU n L lv=(L.getD i []).length:=by
    unfold fU;rw [Ym ⟨ω,by rw [LN.o];omega⟩,show lv.toNat=i+1 by omega]
    rfl
   rw [e] at a;obtain ⟨m,hm⟩:∃ m:Nat,sl=(m:Int):=⟨sl.toNat,ω⟩;have e2:jX L lv sl=(L.getD i []).getD m aF:=(by unfold jX;rw [show lv.toNat-1=i by omega,Ym ⟨⟨ω,by rw [LN.o];omega⟩,a.1,a.2⟩,show sl.toNat=m by omega]);rw [e2];have w1:IntKind.i64.wrap (lv-1)=(i:Int):=(by rw [Δ];omega);obtain ⟨lb,lf,rfl,dO,bL⟩:=HV.o.cells (by rw [LN.o];omega)
   obtain ⟨so,sc,q1,_,_,q4⟩:=bL i (by rw [LN.o];omega)
   obtain ⟨gb,gf,rfl,BP,P0⟩:=q4.cells ω;have ck:=P0 m ω;obtain ⟨sn,oA⟩:=qbr ((L.getD i []).length);rw [oA] at q1 a;obtain ⟨⟨k,sp,ic,fr,te⟩,hs⟩:∃ s,(L.getD i []).getD m aF=s:=⟨_,rfl⟩;rw [hs] at ck ⊢;have k0:w.cell? (φ gb (gf+m*5))=some (BY k):=ck.c0;have k1:w.cell? (φ gb (gf+m*5+1))=some (.float .f64 sp):=ck.c1;have k2:w.cell? (φ gb (gf+m*5+2))=some (.float .f64 ic):=ck.c2;have k3:w.cell? (φ gb (gf+m*5+3))=some (By fr):=ck.c3;have k4:w.cell? (φ gb (gf+m*5+4))=some (By te):=ck.c4;have il:i<ln:=ω;have Hj:(i:Int)<(ln:Int):=ω;have ml:m<sn:=ω;have ml':(m:Int)<(sn:Int):=ω;subst hm;clear e z bL hi ck P0 hs oA q4 e2 b a;go_enter func118,ntmps118;go_wp2_with fail;refine Calls.mono HA.o ?_;rintro e w2 ⟨rfl,rfl⟩;clear HA;go_wp2_with fail;exact bodyPost_ret (v:=.agg #[BY k,.float .f64 sp,.float .f64 ic,By fr,By te]) (by simp [results,results118,go_sem]) rfl ⟨rfl,(Gw.refl w).alloc _ _⟩
  ·rw [qan a] at HA
   have e:jX L lv sl=aF:=by
    unfold jX;refine Yl (fun x=>a ⟨x.2.1,?_⟩)
    have y:=x.2.2;unfold fU;rw [Ym ⟨ω,x.1.2⟩];unfold bK;rw [Yl (by have:=x.1.1;omega)]
    exact y
   rw [e];show Calls _ _ _ _ fun e w'=>e=χ (.agg #[BY 0,.float .f64 0,.float .f64 0,By 0,By 0])/\Gw w w'
   clear e z a;go_enter func118,ntmps118;go_wp2_with fail;refine Calls.mono HA.o ?_;rintro e w2 ⟨rfl,rfl⟩;clear HA;go_wp2_with fail;exact bodyPost_ret (v:=.agg #[BY 0,.float .f64 0,.float .f64 0,By 0,By 0]) (by simp [results,results118,go_sem]) rfl ⟨rfl,(Gw.refl w).alloc _ _⟩
theorem ab6 (h:fF w p S eps f n L) (lv sl:Int) (l0:-9223372036854775808<=lv) (l1:lv<9223372036854775808) (s0:-9223372036854775808<=sl) (s1:sl<9223372036854775808) :
  Calls prog 269 #[IS p,By lv,By sl] w fun e w'=>e=χ (BY (tz f n L lv sl))/\Gw w w':=by
 have HA:ag _:=PZ h 0 sl ω ω;have SE:ag _:=Hk h lv sl l0 l1 s0 s1;obtain ⟨ko,kc,lo,lc,h1,hk,hv⟩:=h.opened;obtain ⟨c0,c1,c2⟩:=tB h1;have pl:p<w.heap.size:=(qab.1 h1).1;have hn:=h.n1;have z0:fU n L 0=n:=by unfold fU;rw [Ym ⟨qaH _,ω⟩];rfl
 rw [z0] at HA;clear h h1 hv z0;by_cases c:lv=0/\0<=sl/\sl<(n:Int)
 ·obtain ⟨z,a⟩:=c
  rw [qaF a] at HA;obtain ⟨m,hm⟩:∃ m:Nat,sl=(m:Int):=⟨sl.toNat,ω⟩;have e:tz f n L lv sl=f m:=by
   unfold tz;rw [z,Ym ⟨⟨qaH _,ω⟩,a⟩,show sl.toNat=m by omega]
   rfl
  rw [e];have t0:(lv == 0)=true:=by simpa using z
  obtain ⟨kb,kf,rfl,iq,di⟩:=hk.cells ω;have ck:=di m ω;generalize f m=y at ck ⊢;have ml:m<n:=ω;have ml':(m:Int)<(n:Int):=ω;subst hm;clear e z a di hk SE;go_enter func269,ntmps269;go_wp2_with fail;refine Calls.mono HA.o ?_;rintro e w2 ⟨rfl,hw⟩;have eJ:w=w2:=hw.symm;subst eJ;clear hw HA;go_wp2_with fail;go_ret;exact ⟨rfl,Gw.refl w⟩
 ·have e:tz f n L lv sl=(jX L lv sl).k:=by
   unfold tz jX;by_cases z:lv=0
   ·subst z
    rw [Yl (fun x=>c ⟨rfl,x.2⟩),Yl (fun x=>by have:=x.1.1;omega)]
    rfl
   ·by_cases x:(0<=lv/\lv<=(L.length:Int))/\0<=sl/\sl<(bK n L lv.toNat:Int)
    ·rw [Ym x]
     obtain ⟨i,hi⟩:∃ i:Nat,lv=(i:Int)+1:=⟨(lv-1).toNat,ω⟩;have e1:lv.toNat=i+1:=ω;rw [e1] at x ⊢;rw [Ym ⟨⟨ω,x.1.2⟩,x.2⟩];rfl
    ·rw [Yl x]
     rw [Yl (fun y=>x ⟨⟨ω,y.1.2⟩,y.2.1,by
      unfold bK;rw [Yl (by have:=y.1.1;omega)]
      exact y.2.2⟩)]
     rfl
  rw [e];obtain ⟨⟨k,sp,ic,fr,te⟩,hs⟩:∃ s,jX L lv sl=s:=⟨_,rfl⟩;rw [hs] at SE ⊢;clear e hs hk;show Calls _ _ _ _ fun e w'=>e=χ (BY k)/\Gw w w'
  have fk:∀ W:World,(Instr.field 174 (.agg #[BY k,.float .f64 sp,.float .f64 ic,By fr,By te]) 0).run prog W=.ok (BY k) W:=fun _=>η
  by_cases z:lv=0
  ·have t0:(lv == 0)=true:=(by simpa using z);rw [qan (fun x=>c ⟨z,x⟩)] at HA
   clear z c;go_enter func269,ntmps269;go_wp2_with fail;refine Calls.mono HA.o ?_;rintro e w2 ⟨rfl,hw⟩;have eJ:w=w2:=hw.symm;subst eJ;clear hw HA;go_wp2_with fail;refine Calls.mono SE.o ?_;rintro e w3 ⟨rfl,g3⟩;have G3:ag _:=g3;clear g3 SE;go_wp2_with fail;go_ret;exact ⟨rfl,G3.o⟩
  ·have t0:(lv == 0)=false:=(by simpa using z);clear z c HA;go_enter func269,ntmps269;go_wp2_with fail;refine Calls.mono SE.o ?_;rintro e w3 ⟨rfl,g3⟩;have G3:ag _:=g3;clear g3 SE;go_wp2_with fail;go_ret;exact ⟨rfl,G3.o⟩
