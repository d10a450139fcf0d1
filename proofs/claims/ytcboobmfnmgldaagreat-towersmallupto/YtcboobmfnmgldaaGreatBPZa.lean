/- The descent through right levels: which segment stands for q, and where q's rank lies. No Go in it. -/
import Derived.Test.YtcboobmfnmgldaaGreatBPVo
import Derived.Test.YtcboobmfnmgldaaGreatBR4Add
set_option linter.unusedVariables false
set_option maxHeartbeats 4000000
set_option maxRecDepth 10000
open Go.Proofs.Tryz
namespace Go.Proofs.YtcboobmfnmgldaaGreat
structure zQ (eps:Int) (f:Nat->Int) (n:Nat) (l:List Sg):Prop where
 up:Up f n
 bd:∀ t,t<n->0<=f t/\f t<18446744073709551616
 tl:dx n 0 l=true
 ne:l≠[]
 ok:∀ s∈l,jh eps f s=0
def bF (f:Nat->Int) (L:List (List Sg)) (j:Nat):Nat->Int:=if j=0 then f else bf (L.getD (j-1) [])
def bL (n:Nat) (L:List (List Sg)) (j:Nat):Nat:=if j=0 then n else (L.getD (j-1) []).length
variable {eps:Int}
theorem aar:∀ {L:List (List Sg)} {f:Nat->Int} {n:Nat},Up f n->(∀ t,t<n->0<=f t/\f t<18446744073709551616)->lj eps f n L=0->(∀ i,i<L.length->zQ eps (bF f L i) (bL n L i) (L.getD i []))/\(L≠[]->(L.getD (L.length-1) []).length=1):=by
 intro L;induction L with
 | nil=>intro f n _ _ _;exact ⟨fun i hi=>by simp at hi,fun h=>absurd rfl h⟩
 | cons l r ih =>
  intro f n u bd h;unfold lj at h;by_cases t:(dx n 0 l&&!l.isEmpty)=false
  ·rw [if_pos t] at h;omega
  ·rw [if_neg t] at h
   have t':dx n 0 l=true/\l≠[]:=by
    have:(dx n 0 l&&!l.isEmpty)=true:=by simpa using t
    rw [Bool.and_eq_true] at this;refine ⟨this.1,fun e=>?_⟩
    rw [e] at this;simp at this
   by_cases z:dW eps f l=0
   ·rw [if_neg (fun q=>q z)] at h
    have K:zQ eps f n l:=⟨u,bd,t'.1,t'.2,Dy.1 z⟩;obtain ⟨u1,_,u3⟩:=nF u t'.1 (fun s hs=>(k6.1 (K.ok s hs)).2.1)
    by_cases e:r=[]
    ·subst e
     rw [if_pos rfl] at h;by_cases o:l.length=1
     ·refine ⟨fun i hi=>?_,fun _=>o⟩
      have:i=0:=by simp at hi;omega
      subst this;exact K
     ·rw [if_neg o] at h;omega
    ·rw [if_neg e] at h
     obtain ⟨a,b⟩:=ih u1 (zE bd u3) h;have rl:=List.length_pos_iff.2 e;refine ⟨fun i hi=>?_,fun _=>?_⟩
     ·cases i with
      | zero=>exact K
      | succ i =>
       have:=a i (by simpa using hi)
       have e1:bF f (l::r) (i+1)=bF (bf l) r i:=by
        unfold bF;rw [if_neg (by omega)]
        cases i with
        | zero=>rw [if_pos rfl];rfl
        | succ i=>rw [if_neg (by omega)];rfl
       have e2:bL n (l::r) (i+1)=bL l.length r i:=by
        unfold bL;rw [if_neg (by omega)]
        cases i with
        | zero=>rw [if_pos rfl];rfl
        | succ i=>rw [if_neg (by omega)];rfl
       rw [e1,e2];exact this
     ·rw [List.length_cons,show r.length+1-1=(r.length-1)+1 by omega]
      exact b e
   ·rw [if_pos z] at h;exact absurd h z
def rs (f:Nat->Int) (n:Nat) (q:Int):Nat:=if aA f q n<n/\f (aA f q n)=q then aA f q n else aA f q n-1
variable {f:Nat->Int} {n:Nat}
theorem MZ (u:Up f n) (n0:0<n) (q:Int):rs f n q<n/\(rs f n q=0\/f (rs f n q)<=q)/\∀ t,rs f n q<t->t<n->q<f t:=by
 obtain ⟨a,b⟩:=oV u q n (Nat.le_refl _);have le:=nD f q n;unfold rs;by_cases h:aA f q n<n/\f (aA f q n)=q
 ·rw [if_pos h]
  refine ⟨h.1,.inr (by omega),fun t h1 h2=>?_⟩
  have:=u.lt h1 h2
  omega
 ·rw [if_neg h]
  refine ⟨by omega,?_,fun t h1 h2=>?_⟩
  ·by_cases c:aA f q n=0
   ·exact .inl (by omega)
   ·have:=a (aA f q n-1) (by omega)
    exact .inr (by omega)
  ·have k:=b t (by omega) h2
   by_cases c:t=aA f q n
   ·subst c
    have:f (aA f q n)≠q:=fun e=>h ⟨h2,e⟩
    omega
   ·have c1:aA f q n<n:=by omega
    have k1:=b (aA f q n) (Nat.le_refl _) c1;have k2:=u.lt (show aA f q n<t by omega) h2
    omega
structure M8 (eps:Int) (f:Nat->Int) (n:Nat) (s:Sg) (q:Int):Prop where
 e0:cg s.sl s.ic s.fr s.te=0
 lo:s.fr<=aA f q n
 hi:(aA f q n:Int)<=s.te
 ten:s.te<=n
 far:-(eps+1)<=cP s.k s.sl s.ic s.fr s.te q-aA f q n/\cP s.k s.sl s.ic s.fr s.te q-aA f q n<=eps+1
 af7:(aA f q n<n/\f (aA f q n)=q)->-eps<=cP s.k s.sl s.ic s.fr s.te q-aA f q n/\cP s.k s.sl s.ic s.fr s.te q-aA f q n<=eps
 there:((aA f q n:Int)<s.te/\f (aA f q n)=q)↔(aA f q n<n/\f (aA f q n)=q)
 next:¬ ((aA f q n:Int)<s.te/\f (aA f q n)=q)->max ((aA f q n:Int)-1) s.fr=rs f n q
theorem aas {l:List Sg} (h:zQ eps f n l) (q:Int) (q1:q<18446744073709551616):M8 eps f n (l.getD (rs (bf l) l.length q) aK) q:=by
 have l0:=List.length_pos_iff.2 h.ne;obtain ⟨u1,_,_⟩:=nF h.up h.tl (fun s hs=>(k6.1 (h.ok s hs)).2.1)
 obtain ⟨r1,r2,r3⟩:=MZ u1 l0 q;generalize rs (bf l) l.length q=t at r1 r2 r3;obtain ⟨s,hs⟩:∃ s,l.getD t aK=s:=⟨_,rfl⟩;have T:=DA h.tl t r1;have mem:s∈l:=by
  rw [<-hs,List.getD_eq_getElem?_getD,List.getElem?_eq_getElem r1];exact List.getElem_mem r1
 obtain ⟨er,hk,_⟩:=k6.1 (h.ok s mem);have N:=ZP h.up h.bd h.tl h.ok q q1 t r1 r2 r3 s hs;rw [hs] at T ⊢;obtain ⟨T1,T2,T3,T4,T5,T6⟩:=T;obtain ⟨c1,c2⟩:=oV h.up q n (Nat.le_refl _);have cl:=nD f q n;have fk:bf l t=f s.fr.toNat:=by
  show (l.getD t aK).k=_;rw [hs];exact hk
 have vw:∀ i:Nat,s.te<=(i:Int)->i<n->q<f i:=fun i h1 h2=>by
  by_cases c:t+1<l.length
  ·have e:=T5 c
   have m':l.getD (t+1) aK∈l:=by
    rw [List.getD_eq_getElem?_getD,List.getElem?_eq_getElem c];exact List.getElem_mem c
   have k':=(k6.1 (h.ok _ m')).2.1;have lt:=r3 (t+1) (by omega) c
   have e2:bf l (t+1)=f s.te.toNat:=by
    show (l.getD (t+1) aK).k=_;rw [k',e]
   rw [e2] at lt;have:=h.up.le (show s.te.toNat<=i by omega) h2
   omega
  ·have:=T6 (by omega)
   omega
 have lo:s.fr<=aA f q n:=by
  rcases r2 with z | z
  ·have:=T4 z;omega
  ·rw [fk] at z
   by_cases c:s.fr<=(aA f q n:Int)
   ·exact c
   ·exfalso
    have x:=c2 (aA f q n) (Nat.le_refl _) (by omega)
    have y:=h.up.lt (show aA f q n<s.fr.toNat by omega) (by omega)
    omega
 have hi:(aA f q n:Int)<=s.te:=by
  by_cases c:(aA f q n:Int)<=s.te
  ·exact c
  ·exfalso
   have x:=c1 s.te.toNat (by omega)
   have y:=vw s.te.toNat (by omega) (by omega)
   omega
 have th:((aA f q n:Int)<s.te/\f (aA f q n)=q)↔(aA f q n<n/\f (aA f q n)=q):=by
  constructor
  ·exact fun x=>⟨by omega,x.2⟩
  ·intro x
   refine ⟨?_,x.2⟩;by_cases c:(aA f q n:Int)<s.te
   ·exact c
   ·have:=vw (aA f q n) (by omega) x.1
    omega
 refine ⟨er,lo,hi,T3,N.1,fun x=>N.2 ⟨_,x.1,x.2⟩,th,fun x=>?_⟩
 have nx:¬ (aA f q n<n/\f (aA f q n)=q):=fun y=>x (th.2 y)
 unfold rs;rw [if_neg nx];by_cases c:(aA f q n:Int)=s.fr
 ·
  have z:aA f q n=0:=by
   rcases r2 with z | z
   ·have:=T4 z;omega
   ·exfalso
    rw [fk] at z;have e:s.fr.toNat=aA f q n:=by omega
    rw [e] at z;have:=c2 (aA f q n) (Nat.le_refl _) (by omega)
    exact nx ⟨by omega,by omega⟩
  omega
 ·omega
theorem aat (f:Nat->Int) (q:Int):rs f 1 q=0:=by
 have:=nD f q 1
 unfold rs;split<;>omega
structure iC where
 lv:Int
 sl:Int
 gu:Int
 lo:Int
 hi:Int
 rk:Int
def iS (q:Int) (L:List (List Sg)) (i:Nat):Nat:=rs (bf (L.getD i [])) (L.getD i []).length q
def dE (q:Int) (L:List (List Sg)) (i:Nat):Sg:=(L.getD i []).getD (iS q L i) aK
def iT (q:Int) (L:List (List Sg)) (i:Nat):Int:=cP (dE q L i).k (dE q L i).sl (dE q L i).ic (dE q L i).fr (dE q L i).te q
def fg (eps q:Int) (f:Nat->Int) (n:Nat) (L:List (List Sg)) (i:Nat):iC :=
 ⟨i,iS q L i,iT q L i,max (dE q L i).fr (iT q L i-eps-1),min (dE q L i).te (iT q L i+eps+1),aA (bF f L i) q (bL n L i)⟩
def D6 (eps q:Int) (f:Nat->Int) (n:Nat) (L:List (List Sg)):List iC:=(List.range L.length).map fun j=>fg eps q f n L (L.length-1-j)
structure jL (eps:Int) (f:Nat->Int) (n:Nat) (L:List (List Sg)):Prop where
 lvl:∀ i,i<L.length->zQ eps (bF f L i) (bL n L i) (L.getD i [])
 top:L≠[]->(L.getD (L.length-1) []).length=1
section
variable {eps q:Int} {f:Nat->Int} {n:Nat} {L:List (List Sg)}
variable {i:Nat}
theorem jL.vis (h:jL eps f n L) (q1:q<18446744073709551616) (hi:i<L.length):M8 eps (bF f L i) (bL n L i) (dE q L i) q:=aas (h.lvl i hi) q q1
theorem jL.slot (h:jL eps f n L) (hi:i<L.length):iS q L i<(L.getD i []).length:=by
 have K:=h.lvl i hi;obtain ⟨u1,_,_⟩:=nF K.up K.tl (fun s hs=>(k6.1 (K.ok s hs)).2.1)
 exact (MZ u1 (List.length_pos_iff.2 K.ne) q).1
theorem jL.slot_top (h:jL eps f n L) (h0:0<L.length):iS q L (L.length-1)=0:=by
 unfold iS;rw [h.top (fun e=>by rw [e] at h0;simp at h0)]
 exact aat _ _
theorem aau (i:Nat):iS q L i=rs (bF f L (i+1)) (bL n L (i+1)) q:=by
 unfold iS bF bL;rw [if_neg (by omega),if_neg (by omega)]
 rfl
theorem jL.window (h:jL eps f n L) (q1:q<18446744073709551616) (hi:i<L.length):(fg eps q f n L i).lo<=(fg eps q f n L i).rk/\(fg eps q f n L i).rk<=(fg eps q f n L i).hi:=by
 have V:=h.vis (q:=q) q1 hi;have a:=V.lo;have b:=V.hi;have c:=V.far;show max (dE q L i).fr (iT q L i-eps-1)<=(aA (bF f L i) q (bL n L i):Int)/\(aA (bF f L i) q (bL n L i):Int)<=min (dE q L i).te (iT q L i+eps+1);unfold iT;omega
theorem jL.below (h:jL eps f n L) (hi:i<L.length):(∀ r,r<aA (bF f L i) q (bL n L i)->bF f L i r<q)/\∀ r,aA (bF f L i) q (bL n L i)<=r->r<bL n L i->q<=bF f L i r :=
 oV (h.lvl i hi).up q _ (Nat.le_refl _)
theorem jL.bounds (h:jL eps f n L) (q1:q<18446744073709551616) (hi:i<L.length):0<=(dE q L i).fr/\(dE q L i).fr<(dE q L i).te/\(dE q L i).te<=4294967296/\(dE q L i).te<=bL n L i/\(dE q L i).fr<=iT q L i/\iT q L i<=(dE q L i).te/\0<=(dE q L i).k:=by
 have V:=h.vis (q:=q) q1 hi;obtain ⟨a,b,c,d,e⟩:=ma.1 V.e0;have K:=h.lvl i hi;have sl:=h.slot (q:=q) hi;have mem:dE q L i∈L.getD i []:=by
  unfold dE;generalize L.getD i []=l at sl;rw [List.getD_eq_getElem?_getD,List.getElem?_eq_getElem sl];exact List.getElem_mem sl
 have kk:=(k6.1 (K.ok _ mem)).2.1;have k0:0<=(dE q L i).k:=by
  rw [kk];exact (K.bd _ (by have:=V.ten;omega)).1
 have g:=zx (q:=q) V.e0 k0 q1;exact ⟨a,b,c,V.ten,g.1,g.2,k0⟩
end
structure zR (eps q:Int) (f:Nat->Int) (n:Nat) (L:List (List Sg)) (A B:List (Int×Int)):Prop where
 an:A.Nodup
 ain:∀ a∈A,∃ i,i<L.length/\a.1=i/\(fg eps q f n L i).lo<=a.2/\a.2<=(fg eps q f n L i).hi/\a.2<(dE q L i).te
 bn:B.Nodup
 bl:B.length=L.length
 bin:∀ b∈B,∃ i,i<L.length/\b.1=(i:Int)+1/\b.2=iS q L i
open Go.RowKit
abbrev M9 (v:iC):Value:=.agg #[AI v.lv,AI v.sl,AI v.gu,AI v.lo,AI v.hi,AI v.rk]
structure Na (w:World) (b off:Nat) (v:iC):Prop where
 c0:w.cell? ⟨b,off,none⟩=some (AI v.lv)
 c1:w.cell? ⟨b,off+1,none⟩=some (AI v.sl)
 c2:w.cell? ⟨b,off+2,none⟩=some (AI v.gu)
 c3:w.cell? ⟨b,off+3,none⟩=some (AI v.lo)
 c4:w.cell? ⟨b,off+4,none⟩=some (AI v.hi)
 c5:w.cell? ⟨b,off+5,none⟩=some (AI v.rk)
def Nb (HP:World->Nat->(Nat->Prop)->Int->(Nat->Int)->Nat->List (List Sg)->Prop) (w w':World) (ex:Ending) (eps:Int) (f:Nat->Int) (n:Nat) (L:List (List Sg)):Prop :=
 ∃ E,ji eps f n L E/\((E≠0/\ex=.returned (.tuple #[.pointer none,AI E]))\/(E=0/\∃ p S,ex=.returned (.tuple #[BY p,AI 0])/\(∀ q,S q->w.heap.size<=q)/\HP w' p S eps f n L))
def vD (f:Nat->Int) (n:Nat) (q:Int):Value:=.tuple #[AI (aA f q n:Nat),.bool (decide (aA f q n<n/\f (aA f q n)=q))]
structure mA (eps:Int) (f:Nat->Int) (n:Nat) (L:List (List Sg)):Prop where
 e0:2<=eps
 e1:eps<=64
 lv:jL eps f n L
 z:L.length=0↔n=0
 n1:n<=2000000
 sh:mq L
variable {eps:Int} {f:Nat->Int} {n:Nat} {L:List (List Sg)}
theorem mA.of (h:ji eps f n L 0) (n1:n<=2000000) (sh:mq L) (bd:∀ t,t<n->0<=f t/\f t<18446744073709551616):mA eps f n L:=by
 rcases h with ⟨_,q⟩ | ⟨_,_,q⟩ | ⟨_,_,_,q⟩ | ⟨a,b,c,q⟩
 ·cases q
 ·cases q
 ·cases q
 ·have:=aar b bd q.symm
  exact ⟨a.1,a.2,⟨this.1,this.2⟩,c.2,n1,sh⟩
def fW (n:Nat) (L:List (List Sg)) (lv:Int):Nat:=if 0<=lv/\lv<=L.length then bL n L lv.toNat else 0
def qT (f:Nat->Int) (n:Nat) (L:List (List Sg)) (lv sl:Int):Int:=if (0<=lv/\lv<=L.length)/\0<=sl/\sl<bL n L lv.toNat then bF f L lv.toNat sl.toNat else 0
def kD (L:List (List Sg)) (lv sl:Int):Sg:=if (1<=lv/\lv<=L.length)/\0<=sl/\sl<(L.getD (lv.toNat-1) []).length then (L.getD (lv.toNat-1) []).getD sl.toNat aK else aK
variable {i:Nat}
theorem aav (u:Up f n) (hi:i<n):aA f (f i) n=i:=by
 obtain ⟨a,b⟩:=oV u (f i) n (Nat.le_refl _);have le:=nD f (f i) n;rcases Nat.lt_trichotomy (aA f (f i) n) i with c | c | c
 ·have x:=b _ (Nat.le_refl _) (by omega)
  have y:=u.lt c hi;omega
 ·exact c
 ·have:=a i c
  omega
end Go.Proofs.YtcboobmfnmgldaaGreat
namespace Go.Proofs.YtcboobmfnmgldaaGreat
open Go.RowKit
attribute [local go_sem] iy
structure eQ (w:World) (p:Nat) (S:Nat->Prop) (eps:Int) (f:Nat->Int) (n:Nat) (L:List (List Sg)):Prop where
 lies:∃ (u:World) (base:Nat) (ko:Option Addr) (kc:Nat) (lo:Option Addr) (lc:Nat),(∀ q,S q↔base<=q/\q<u.heap.size)/\u.heap.size<=w.heap.size/\(∀ q,base<=q->q<u.heap.size->w.heap[q]?=u.heap[q]?)/\u.heap[p]?=some (.cells #[AI eps,.slice ko n kc,.slice lo L.length lc] 169 (0,0))/\base<=p/\KS u ko n f/\(∀ a,ko=some a->base<=a.block)/\gT u base lo L
 n1:n<=2000000
 sh:mq L
variable {w:World} {p n:Nat} {S:Nat->Prop} {eps:Int} {f:Nat->Int} {L:List (List Sg)}
theorem eQ.lt (h:eQ w p S eps f n L):∀ q,S q->q<w.heap.size:=by
 obtain ⟨u,base,ko,kc,lo,lc,h1,h2,_⟩:=h.lies;intro q hq;have:=(h1 q).1 hq;omega
theorem eQ.keep {w':World} (h:eQ w p S eps f n L) (k:∀ q,S q->w'.heap[q]?=w.heap[q]?):eQ w' p S eps f n L:=by
 obtain ⟨u,base,ko,kc,lo,lc,h1,h2,h3,h4,h5,h6⟩:=h.lies;have pu:p<u.heap.size:=(Array.getElem?_eq_some_iff.1 h4).1;refine ⟨⟨u,base,ko,kc,lo,lc,h1,?_,fun q a b=>(k q ((h1 q).2 ⟨a,b⟩)).trans (h3 q a b),h4,h5,h6⟩,h.n1,h.sh⟩
 have e:=k (u.heap.size-1) ((h1 _).2 ⟨by omega,by omega⟩)
 rw [Array.getElem?_eq_getElem (show u.heap.size-1<w.heap.size by omega)] at e
 have:=(Array.getElem?_eq_some_iff.1 e).1
 omega
theorem eQ.opened (h:eQ w p S eps f n L):∃ ko kc lo lc,w.heap[p]?=some (.cells #[AI eps,.slice ko n kc,.slice lo L.length lc] 169 (0,0))/\KS w ko n f/\VS w lo L:=by
 obtain ⟨u,base,ko,kc,lo,lc,h1,h2,h3,h4,h5,h6,h7,h8⟩:=h.lies;have pu:p<u.heap.size:=(Array.getElem?_eq_some_iff.1 h4).1;refine ⟨ko,kc,lo,lc,(h3 p h5 pu).trans h4,⟨fun hn=>?_,h6.bd⟩,(h8.keep (fun q a b=>h3 q a b) h2).vs⟩
 obtain ⟨b,off,e,hb,hc⟩:=h6.cells hn;have bb:base<=b:=h7 _ e;exact ⟨b,off,e,by omega,fun i hi=>(World.cell?_of_block (a:=⟨b,off+i,none⟩) (h3 b bb hb)).trans (hc i hi)⟩
theorem qU {a b c:Value} {t:TypeId} (h:w.heap[p]?=some (.cells #[a,b,c] t (0,0))):w.cell? ⟨p,0,none⟩=some a/\w.cell? ⟨p,1,none⟩=some b/\w.cell? ⟨p,2,none⟩=some c:=by
 refine ⟨?_,?_,?_⟩<;>simp [World.cell?,h]
theorem Nc (h:eQ w p S eps f n L) :
  Calls prog 104 #[BY p] w fun e w'=>e=.returned (AI eps)/\w'=w:=by
 obtain ⟨ko,kc,lo,lc,h1,_⟩:=h.opened;obtain ⟨c0,c1,c2⟩:=qU h1;clear h h1;go_enter func104,ntmps104;go_wp2_with fail;go_ret;exact ⟨rfl,rfl⟩
theorem aaw (h:eQ w p S eps f n L) :
  Calls prog 236 #[BY p] w fun e w'=>e=.returned (AI (L.length:Int))/\w'=w:=by
 obtain ⟨ko,kc,lo,lc,h1,_⟩:=h.opened;obtain ⟨c0,c1,c2⟩:=qU h1;clear h h1;go_enter func236,ntmps236;go_wp2_with fail;go_ret;exact ⟨rfl,rfl⟩
theorem aax (h:eQ w p S eps f n L) (lv:Int) (l0:-9223372036854775808<=lv) (l1:lv<9223372036854775808) :
  Calls prog 240 #[BY p,AI lv] w fun e w'=>e=.returned (AI (fW n L lv:Nat))/\w'=w:=by
 obtain ⟨ko,kc,lo,lc,h1,hk,hv⟩:=h.opened;obtain ⟨c0,c1,c2⟩:=qU h1;have pl:p<w.heap.size:=(Array.getElem?_eq_some_iff.1 h1).1;have hl:=h.sh.1;obtain ⟨ln,au⟩:∃ ln,L.length=ln:=⟨_,rfl⟩;have LN:ag _:=au;rw [au] at c2 hl;have HV:ag _:=hv;clear h h1 hk hv au;by_cases z:lv=0
 ·have e:fW n L lv=n:=by rw [z];unfold fW;rw [if_pos ⟨Int.le_refl _,by omega⟩];rfl
  have t0:(lv == 0)=true:=by simpa using z
  rw [e];clear e z;go_enter func240,ntmps240;go_wp2_with fail;go_ret;exact ⟨rfl,rfl⟩
 ·have t0:(lv == 0)=false:=by simpa using z
  by_cases a:lv<0
  ·have e:fW n L lv=0:=by unfold fW;rw [if_neg (fun x=>by have:=x.1;omega)]
   have t1:decide (lv<0)=true:=by simpa using a
   rw [e];clear e z;go_enter func240,ntmps240;go_wp2_with fail;go_ret;exact ⟨rfl,rfl⟩
  ·have t1:decide (lv<0)=false:=by simpa using a
   by_cases b:(ln:Int)<lv
   ·have e:fW n L lv=0:=by unfold fW;rw [if_neg (fun x=>by have:=x.2;rw [LN.o] at this;omega)]
    have t2:decide ((ln:Int)<lv)=true:=by simpa using b
    rw [e];clear e z;go_enter func240,ntmps240;go_wp2_with fail;go_ret;exact ⟨rfl,rfl⟩
   ·obtain ⟨i,hi⟩:∃ i:Nat,lv=(i:Int)+1:=⟨(lv-1).toNat,by omega⟩
    have e:fW n L lv=(L.getD i []).length:=by
     unfold fW;rw [if_pos ⟨by omega,by rw [LN.o];omega⟩,show lv.toNat=i+1 by omega]
     rfl
    have t2:decide ((ln:Int)<lv)=false:=by simpa using b
    have w1:IntKind.i64.wrap (lv-1)=(i:Int):=by rw [IntKind.wrap_i64];omega
    obtain ⟨lb,lf,rfl,eR,cL⟩:=HV.o.cells (by rw [LN.o];omega)
    obtain ⟨so,sc,q1,_,_,_⟩:=cL i (by rw [LN.o];omega)
    have il:i<ln:=by omega
    have D7:(i:Int)<(ln:Int):=by omega
    rw [e];generalize (L.getD i []).length=sn at q1 ⊢;clear e z cL hi;go_enter func240,ntmps240;go_wp2_with fail;go_ret;exact ⟨rfl,rfl⟩
theorem Nd (h:eQ w p S eps f n L) (lv sl:Int) (l0:-9223372036854775808<=lv) (l1:lv<9223372036854775808) :
  Calls prog 239 #[BY p,AI lv,AI sl] w fun e w'=>e=.returned (.bool (decide (0<=sl/\sl<(fW n L lv:Nat))))/\w'=w:=by
 have SZ:ag _:=aax h lv l0 l1;clear h;generalize fW n L lv=z at SZ ⊢;by_cases a:0<=sl
 ·have t1:decide (0<=sl)=true:=by simpa using a
  have e:decide (0<=sl/\sl<(z:Int))=decide (sl<(z:Int)):=by
   by_cases b:sl<(z:Int)
   ·rw [decide_eq_true b,decide_eq_true ⟨a,b⟩]
   ·rw [decide_eq_false b,decide_eq_false (fun x=>b x.2)]
  rw [e];obtain ⟨d,hd⟩:∃ d,decide (sl<(z:Int))=d:=⟨_,rfl⟩;rw [hd];clear e;go_enter func239,ntmps239;go_wp2_with fail;refine Calls.mono SZ.o ?_;rintro e w2 ⟨rfl,hw⟩;have dR:w=w2:=hw.symm;subst dR;clear hw SZ;go_wp2_with fail;go_ret;exact ⟨rfl,rfl⟩
 ·have t1:decide (0<=sl)=false:=by simpa using a
  rw [decide_eq_false (fun x=>a x.1)]
  go_enter func239,ntmps239;go_wp2_with fail;go_ret;exact ⟨rfl,rfl⟩
theorem Nf (h:eQ w p S eps f n L) (lv sl:Int) (l0:-9223372036854775808<=lv) (l1:lv<9223372036854775808) (s0:-9223372036854775808<=sl) (s1:sl<9223372036854775808) :
  Calls prog 238 #[BY p,AI lv,AI sl] w fun e w'=>e=.returned (LS (kD L lv sl))/\Gw w w':=by
 have HA:ag (Calls prog 239 #[BY p,AI lv,AI sl] (w.alloc (.cells #[By 0,.float .f64 0,.float .f64 0,AI 0,AI 0] 145)) fun e w'=>e=.returned (.bool (decide (0<=sl/\sl<(fW n L lv:Nat))))/\w'=(w.alloc (.cells #[By 0,.float .f64 0,.float .f64 0,AI 0,AI 0] 145))):=Nd (h.keep fun q hq=>heap_alloc_old w _ (h.lt q hq)) lv sl l0 l1
 obtain ⟨ko,kc,lo,lc,h1,hk,hv⟩:=h.opened;obtain ⟨c0,c1,c2⟩:=qU h1;have pl:p<w.heap.size:=(Array.getElem?_eq_some_iff.1 h1).1;have hl:=h.sh.1;obtain ⟨ln,au⟩:∃ ln,L.length=ln:=⟨_,rfl⟩;have LN:ag _:=au;rw [au] at c2 hl;have HV:ag _:=hv;clear h h1 hk hv au;by_cases z:lv=0
 ·have e:kD L lv sl=aK:=by unfold kD;rw [if_neg (fun x=>by have:=x.1.1;omega)]
  have t0:(lv == 0)=true:=by simpa using z
  rw [e];show Calls _ _ _ _ fun e w'=>e=.returned (.agg #[By 0,.float .f64 0,.float .f64 0,AI 0,AI 0])/\Gw w w'
  clear e z HA;go_enter func238,ntmps238;go_wp2_with fail;exact bodyPost_ret (v:=.agg #[By 0,.float .f64 0,.float .f64 0,AI 0,AI 0]) (by simp [results,results238,go_sem]) rfl ⟨rfl,(Gw.refl w).alloc _ _⟩
 ·have t0:(lv == 0)=false:=by simpa using z
  by_cases a:0<=sl/\sl<(fW n L lv:Nat)
  ·rw [decide_eq_true a] at HA
   have b:0<=lv/\lv<=L.length:=by
    by_cases x:0<=lv/\lv<=L.length
    ·exact x
    ·have:=a.2;unfold fW at this;rw [if_neg x] at this;omega
   rw [LN.o] at b;obtain ⟨i,hi⟩:∃ i:Nat,lv=(i:Int)+1:=⟨(lv-1).toNat,by omega⟩
   have e:fW n L lv=(L.getD i []).length:=by
    unfold fW;rw [if_pos ⟨by omega,by rw [LN.o];omega⟩,show lv.toNat=i+1 by omega]
    rfl
   rw [e] at a;obtain ⟨m,hm⟩:∃ m:Nat,sl=(m:Int):=⟨sl.toNat,by omega⟩
   have e2:kD L lv sl=(L.getD i []).getD m aK:=by
    unfold kD;rw [show lv.toNat-1=i by omega,if_pos ⟨⟨by omega,by rw [LN.o];omega⟩,a.1,a.2⟩,show sl.toNat=m by omega]
   rw [e2];have w1:IntKind.i64.wrap (lv-1)=(i:Int):=by rw [IntKind.wrap_i64];omega
   obtain ⟨lb,lf,rfl,eR,cL⟩:=HV.o.cells (by rw [LN.o];omega)
   obtain ⟨so,sc,q1,_,_,q4⟩:=cL i (by rw [LN.o];omega)
   obtain ⟨gb,gf,rfl,zS,Ng⟩:=q4.cells (by omega)
   have ck:=Ng m (by omega)
   obtain ⟨sn,mB⟩:∃ sn,(L.getD i []).length=sn:=⟨_,rfl⟩;rw [mB] at q1 a;obtain ⟨⟨k,sp,ic,fr,te⟩,hs⟩:∃ s,(L.getD i []).getD m aK=s:=⟨_,rfl⟩;rw [hs] at ck ⊢;have k0:w.cell? ⟨gb,gf+m*5,none⟩=some (By k):=ck.c0;have k1:w.cell? ⟨gb,gf+m*5+1,none⟩=some (.float .f64 sp):=ck.c1;have k2:w.cell? ⟨gb,gf+m*5+2,none⟩=some (.float .f64 ic):=ck.c2;have k3:w.cell? ⟨gb,gf+m*5+3,none⟩=some (AI fr):=ck.c3;have k4:w.cell? ⟨gb,gf+m*5+4,none⟩=some (AI te):=ck.c4;have il:i<ln:=by omega
   have D7:(i:Int)<(ln:Int):=by omega
   have ml:m<sn:=by omega
   have ml':(m:Int)<(sn:Int):=by omega
   subst hm;clear e z cL hi ck Ng hs mB q4 e2 b a;go_enter func238,ntmps238;go_wp2_with fail;refine Calls.mono HA.o ?_;rintro e w2 ⟨rfl,rfl⟩;clear HA;go_wp2_with fail;exact bodyPost_ret (v:=.agg #[By k,.float .f64 sp,.float .f64 ic,AI fr,AI te]) (by simp [results,results238,go_sem]) rfl ⟨rfl,(Gw.refl w).alloc _ _⟩
  ·rw [decide_eq_false a] at HA
   have e:kD L lv sl=aK:=by
    unfold kD;refine if_neg (fun x=>a ⟨x.2.1,?_⟩)
    have y:=x.2.2;unfold fW;rw [if_pos ⟨by omega,x.1.2⟩]
    unfold bL;rw [if_neg (by have:=x.1.1;omega)]
    exact y
   rw [e];show Calls _ _ _ _ fun e w'=>e=.returned (.agg #[By 0,.float .f64 0,.float .f64 0,AI 0,AI 0])/\Gw w w'
   clear e z a;go_enter func238,ntmps238;go_wp2_with fail;refine Calls.mono HA.o ?_;rintro e w2 ⟨rfl,rfl⟩;clear HA;go_wp2_with fail;exact bodyPost_ret (v:=.agg #[By 0,.float .f64 0,.float .f64 0,AI 0,AI 0]) (by simp [results,results238,go_sem]) rfl ⟨rfl,(Gw.refl w).alloc _ _⟩
theorem aay (h:eQ w p S eps f n L) (lv sl:Int) (l0:-9223372036854775808<=lv) (l1:lv<9223372036854775808) (s0:-9223372036854775808<=sl) (s1:sl<9223372036854775808) :
  Calls prog 237 #[BY p,AI lv,AI sl] w fun e w'=>e=.returned (By (qT f n L lv sl))/\Gw w w':=by
 have HA:ag _:=Nd h 0 sl (by omega) (by omega)
 have SE:ag _:=Nf h lv sl l0 l1 s0 s1;obtain ⟨ko,kc,lo,lc,h1,hk,hv⟩:=h.opened;obtain ⟨c0,c1,c2⟩:=qU h1;have pl:p<w.heap.size:=(Array.getElem?_eq_some_iff.1 h1).1;have hn:=h.n1;have z0:fW n L 0=n:=by unfold fW;rw [if_pos ⟨Int.le_refl _,by omega⟩];rfl
 rw [z0] at HA;clear h h1 hv z0;by_cases c:lv=0/\0<=sl/\sl<(n:Int)
 ·obtain ⟨z,a⟩:=c
  rw [decide_eq_true a] at HA;obtain ⟨m,hm⟩:∃ m:Nat,sl=(m:Int):=⟨sl.toNat,by omega⟩
  have e:qT f n L lv sl=f m:=by
   unfold qT;rw [z,if_pos ⟨⟨Int.le_refl _,by omega⟩,a⟩,show sl.toNat=m by omega]
   rfl
  rw [e];have t0:(lv == 0)=true:=by simpa using z
  obtain ⟨kb,kf,rfl,jk,dY⟩:=hk.cells (by omega)
  have ck:=dY m (by omega)
  generalize f m=y at ck ⊢;have ml:m<n:=by omega
  have ml':(m:Int)<(n:Int):=by omega
  subst hm;clear e z a dY hk SE;go_enter func237,ntmps237;go_wp2_with fail;refine Calls.mono HA.o ?_;rintro e w2 ⟨rfl,hw⟩;have dR:w=w2:=hw.symm;subst dR;clear hw HA;go_wp2_with fail;go_ret;exact ⟨rfl,Gw.refl w⟩
 ·have e:qT f n L lv sl=(kD L lv sl).k:=by
   unfold qT kD;by_cases z:lv=0
   ·subst z
    rw [if_neg (fun x=>c ⟨rfl,x.2⟩),if_neg (fun x=>by have:=x.1.1;omega)]
    rfl
   ·by_cases x:(0<=lv/\lv<=(L.length:Int))/\0<=sl/\sl<(bL n L lv.toNat:Int)
    ·rw [if_pos x]
     obtain ⟨i,hi⟩:∃ i:Nat,lv=(i:Int)+1:=⟨(lv-1).toNat,by omega⟩
     have e1:lv.toNat=i+1:=by omega
     rw [e1] at x ⊢;rw [if_pos ⟨⟨by omega,x.1.2⟩,x.2⟩]
     rfl
    ·rw [if_neg x]
     rw [if_neg (fun y=>x ⟨⟨by omega,y.1.2⟩,y.2.1,by
      unfold bL;rw [if_neg (by have:=y.1.1;omega)]
      exact y.2.2⟩)]
     rfl
  rw [e];obtain ⟨⟨k,sp,ic,fr,te⟩,hs⟩:∃ s,kD L lv sl=s:=⟨_,rfl⟩;rw [hs] at SE ⊢;clear e hs hk;show Calls _ _ _ _ fun e w'=>e=.returned (By k)/\Gw w w'
  have fk:∀ W:World,(Instr.field 145 (.agg #[By k,.float .f64 sp,.float .f64 ic,AI fr,AI te]) 0).run prog W=.ok (By k) W:=fun _=>by kernel_rfl
  by_cases z:lv=0
  ·have t0:(lv == 0)=true:=by simpa using z
   rw [decide_eq_false (fun x=>c ⟨z,x⟩)] at HA
   clear z c;go_enter func237,ntmps237;go_wp2_with fail;refine Calls.mono HA.o ?_;rintro e w2 ⟨rfl,hw⟩;have dR:w=w2:=hw.symm;subst dR;clear hw HA;go_wp2_with fail;refine Calls.mono SE.o ?_;rintro e w3 ⟨rfl,g3⟩;have G3:ag _:=g3;clear g3 SE;go_wp2_with fail;go_ret;exact ⟨rfl,G3.o⟩
  ·have t0:(lv == 0)=false:=by simpa using z
   clear z c HA;go_enter func237,ntmps237;go_wp2_with fail;refine Calls.mono SE.o ?_;rintro e w3 ⟨rfl,g3⟩;have G3:ag _:=g3;clear g3 SE;go_wp2_with fail;go_ret;exact ⟨rfl,G3.o⟩
end Go.Proofs.YtcboobmfnmgldaaGreat
