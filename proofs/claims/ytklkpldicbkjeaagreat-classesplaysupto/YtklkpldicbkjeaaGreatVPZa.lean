/- The descent through right levels: which segment stands for q, and where q's rank lies. No Go in it. -/
import Derived.Test.YtklkpldicbkjeaaGreatVPVo
import Derived.Test.YtklkpldicbkjeaaGreatVR4Add
set_option linter.unusedVariables false
namespace Go.Proofs.YtklkpldicbkjeaaGreat
structure zm (eps:Int) (f:Nat->Int) (n:Nat) (l:List Sg):Prop where
 up:Up f n
 bd:∀ t,t<n->0<=f t/\f t<18446744073709551616
 tl:dk n 0 l=true
 ne:l≠[]
 ok:∀ s∈l,iT eps f s=0
def bj (f:Nat->Int) (L:List (List Sg)) (j:Nat):Nat->Int:=if j=0 then f else aW (L.getD (j-1) [])
def bD (n:Nat) (L:List (List Sg)) (j:Nat):Nat:=if j=0 then n else (L.getD (j-1) []).length
theorem aaa {eps:Int}:∀ {L:List (List Sg)} {f:Nat->Int} {n:Nat},Up f n->(∀ t,t<n->0<=f t/\f t<18446744073709551616)->kS eps f n L=0->(∀ i,i<L.length->zm eps (bj f L i) (bD n L i) (L.getD i []))/\(L≠[]->(L.getD (L.length-1) []).length=1):=by
 intro L;induction L with
 | nil=>intro f n _ _ _;exact ⟨fun i hi=>by simp at hi,fun h=>absurd rfl h⟩
 | cons l r ih =>
  intro f n u bd h;unfold kS at h;by_cases t:(dk n 0 l&&!l.isEmpty)=false
  ·rw [if_pos t] at h;omega
  ·rw [if_neg t] at h
   have t':dk n 0 l=true/\l≠[]:=by
    have:(dk n 0 l&&!l.isEmpty)=true:=by simpa using t
    rw [Bool.and_eq_true] at this;refine ⟨this.1,fun e=>?_⟩
    rw [e] at this;simp at this
   by_cases z:dV eps f l=0
   ·rw [if_neg (fun q=>q z)] at h
    have K:zm eps f n l:=⟨u,bd,t'.1,t'.2,CJ.1 z⟩;obtain ⟨u1,_,u3⟩:=nJ u t'.1 (fun s hs=>(kR.1 (K.ok s hs)).2.1)
    by_cases e:r=[]
    ·subst e
     rw [if_pos rfl] at h;by_cases o:l.length=1
     ·refine ⟨fun i hi=>?_,fun _=>o⟩
      have:i=0:=by simp at hi;omega
      subst this;exact K
     ·rw [if_neg o] at h;omega
    ·rw [if_neg e] at h
     obtain ⟨a,b⟩:=ih u1 (yS bd u3) h;have rl:=List.length_pos_iff.2 e;refine ⟨fun i hi=>?_,fun _=>?_⟩
     ·cases i with
      | zero=>exact K
      | succ i =>
       have:=a i (by simpa using hi)
       have e1:bj f (l::r) (i+1)=bj (aW l) r i:=by
        unfold bj;rw [if_neg (by omega)]
        cases i with
        | zero=>rw [if_pos rfl];rfl
        | succ i=>rw [if_neg (by omega)];rfl
       have e2:bD n (l::r) (i+1)=bD l.length r i:=by
        unfold bD;rw [if_neg (by omega)]
        cases i with
        | zero=>rw [if_pos rfl];rfl
        | succ i=>rw [if_neg (by omega)];rfl
       rw [e1,e2];exact this
     ·rw [List.length_cons,show r.length+1-1=(r.length-1)+1 by omega]
      exact b e
   ·rw [if_pos z] at h;exact absurd h z
def rs (f:Nat->Int) (n:Nat) (q:Int):Nat:=if ax f q n<n/\f (ax f q n)=q then ax f q n else ax f q n-1
theorem Ms {f:Nat->Int} {n:Nat} (u:Up f n) (n0:0<n) (q:Int):rs f n q<n/\(rs f n q=0\/f (rs f n q)<=q)/\∀ t,rs f n q<t->t<n->q<f t:=by
 obtain ⟨a,b⟩:=oN u q n (Nat.le_refl _);have le:=nI f q n;unfold rs;by_cases h:ax f q n<n/\f (ax f q n)=q
 ·rw [if_pos h]
  refine ⟨h.1,.inr (by omega),fun t h1 h2=>?_⟩
  have:=u.lt h1 h2
  omega
 ·rw [if_neg h]
  refine ⟨by omega,?_,fun t h1 h2=>?_⟩
  ·by_cases c:ax f q n=0
   ·exact .inl (by omega)
   ·have:=a (ax f q n-1) (by omega)
    exact .inr (by omega)
  ·have k:=b t (by omega) h2
   by_cases c:t=ax f q n
   ·subst c
    have:f (ax f q n)≠q:=fun e=>h ⟨h2,e⟩
    omega
   ·have c1:ax f q n<n:=by omega
    have k1:=b (ax f q n) (Nat.le_refl _) c1;have k2:=u.lt (show ax f q n<t by omega) h2
    omega
structure Mt (eps:Int) (f:Nat->Int) (n:Nat) (s:Sg) (q:Int):Prop where
 e0:bU s.sl s.ic s.fr s.te=0
 lo:s.fr<=ax f q n
 hi:(ax f q n:Int)<=s.te
 ten:s.te<=n
 far:-(eps+1)<=cP s.k s.sl s.ic s.fr s.te q-ax f q n/\cP s.k s.sl s.ic s.fr s.te q-ax f q n<=eps+1
 afZ:(ax f q n<n/\f (ax f q n)=q)->-eps<=cP s.k s.sl s.ic s.fr s.te q-ax f q n/\cP s.k s.sl s.ic s.fr s.te q-ax f q n<=eps
 there:((ax f q n:Int)<s.te/\f (ax f q n)=q)↔(ax f q n<n/\f (ax f q n)=q)
 next:¬ ((ax f q n:Int)<s.te/\f (ax f q n)=q)->max ((ax f q n:Int)-1) s.fr=rs f n q
theorem aab {eps:Int} {f:Nat->Int} {n:Nat} {l:List Sg} (h:zm eps f n l) (q:Int) (q1:q<18446744073709551616):Mt eps f n (l.getD (rs (aW l) l.length q) az) q:=by
 have l0:=List.length_pos_iff.2 h.ne;obtain ⟨u1,_,_⟩:=nJ h.up h.tl (fun s hs=>(kR.1 (h.ok s hs)).2.1)
 obtain ⟨r1,r2,r3⟩:=Ms u1 l0 q;generalize rs (aW l) l.length q=t at r1 r2 r3;obtain ⟨s,hs⟩:∃ s,l.getD t az=s:=⟨_,rfl⟩;have T:=CO h.tl t r1;have mem:s∈l:=by
  rw [<-hs,List.getD_eq_getElem?_getD,List.getElem?_eq_getElem r1];exact List.getElem_mem r1
 obtain ⟨er,hk,_⟩:=kR.1 (h.ok s mem);have N:=Zk h.up h.bd h.tl h.ok q q1 t r1 r2 r3 s hs;rw [hs] at T ⊢;obtain ⟨T1,T2,T3,T4,T5,T6⟩:=T;obtain ⟨c1,c2⟩:=oN h.up q n (Nat.le_refl _);have cl:=nI f q n;have fk:aW l t=f s.fr.toNat:=by
  show (l.getD t az).k=_;rw [hs];exact hk
 have uS:∀ i:Nat,s.te<=(i:Int)->i<n->q<f i:=fun i h1 h2=>by
  by_cases c:t+1<l.length
  ·have e:=T5 c
   have m':l.getD (t+1) az∈l:=by
    rw [List.getD_eq_getElem?_getD,List.getElem?_eq_getElem c];exact List.getElem_mem c
   have k':=(kR.1 (h.ok _ m')).2.1;have lt:=r3 (t+1) (by omega) c
   have e2:aW l (t+1)=f s.te.toNat:=by
    show (l.getD (t+1) az).k=_;rw [k',e]
   rw [e2] at lt;have:=h.up.le (show s.te.toNat<=i by omega) h2
   omega
  ·have:=T6 (by omega)
   omega
 have lo:s.fr<=ax f q n:=by
  rcases r2 with z | z
  ·have:=T4 z;omega
  ·rw [fk] at z
   by_cases c:s.fr<=(ax f q n:Int)
   ·exact c
   ·exfalso
    have x:=c2 (ax f q n) (Nat.le_refl _) (by omega)
    have y:=h.up.lt (show ax f q n<s.fr.toNat by omega) (by omega)
    omega
 have hi:(ax f q n:Int)<=s.te:=by
  by_cases c:(ax f q n:Int)<=s.te
  ·exact c
  ·exfalso
   have x:=c1 s.te.toNat (by omega)
   have y:=uS s.te.toNat (by omega) (by omega)
   omega
 have th:((ax f q n:Int)<s.te/\f (ax f q n)=q)↔(ax f q n<n/\f (ax f q n)=q):=by
  constructor
  ·exact fun x=>⟨by omega,x.2⟩
  ·intro x
   refine ⟨?_,x.2⟩;by_cases c:(ax f q n:Int)<s.te
   ·exact c
   ·have:=uS (ax f q n) (by omega) x.1
    omega
 refine ⟨er,lo,hi,T3,N.1,fun x=>N.2 ⟨_,x.1,x.2⟩,th,fun x=>?_⟩
 have nx:¬ (ax f q n<n/\f (ax f q n)=q):=fun y=>x (th.2 y)
 unfold rs;rw [if_neg nx];by_cases c:(ax f q n:Int)=s.fr
 ·
  have z:ax f q n=0:=by
   rcases r2 with z | z
   ·have:=T4 z;omega
   ·exfalso
    rw [fk] at z;have e:s.fr.toNat=ax f q n:=by omega
    rw [e] at z;have:=c2 (ax f q n) (Nat.le_refl _) (by omega)
    exact nx ⟨by omega,by omega⟩
  omega
 ·omega
theorem aac (f:Nat->Int) (q:Int):rs f 1 q=0:=by
 have:=nI f q 1
 unfold rs;split<;>omega
structure fR where
 lv:Int
 sl:Int
 gu:Int
 lo:Int
 hi:Int
 rk:Int
def iF (q:Int) (L:List (List Sg)) (i:Nat):Nat:=rs (aW (L.getD i [])) (L.getD i []).length q
def dy (q:Int) (L:List (List Sg)) (i:Nat):Sg:=(L.getD i []).getD (iF q L i) az
def iG (q:Int) (L:List (List Sg)) (i:Nat):Int:=cP (dy q L i).k (dy q L i).sl (dy q L i).ic (dy q L i).fr (dy q L i).te q
def eR (eps q:Int) (f:Nat->Int) (n:Nat) (L:List (List Sg)) (i:Nat):fR :=
 ⟨i,iF q L i,iG q L i,max (dy q L i).fr (iG q L i-eps-1),min (dy q L i).te (iG q L i+eps+1),ax (bj f L i) q (bD n L i)⟩
def Dh (eps q:Int) (f:Nat->Int) (n:Nat) (L:List (List Sg)):List fR:=(List.range L.length).map fun j=>eR eps q f n L (L.length-1-j)
structure jC (eps:Int) (f:Nat->Int) (n:Nat) (L:List (List Sg)):Prop where
 lvl:∀ i,i<L.length->zm eps (bj f L i) (bD n L i) (L.getD i [])
 top:L≠[]->(L.getD (L.length-1) []).length=1
section
variable {eps q:Int} {f:Nat->Int} {n:Nat} {L:List (List Sg)}
theorem jC.vis (h:jC eps f n L) (q1:q<18446744073709551616) {i:Nat} (hi:i<L.length):Mt eps (bj f L i) (bD n L i) (dy q L i) q:=aab (h.lvl i hi) q q1
theorem jC.slot (h:jC eps f n L) {i:Nat} (hi:i<L.length):iF q L i<(L.getD i []).length:=by
 have K:=h.lvl i hi;obtain ⟨u1,_,_⟩:=nJ K.up K.tl (fun s hs=>(kR.1 (K.ok s hs)).2.1)
 exact (Ms u1 (List.length_pos_iff.2 K.ne) q).1
theorem jC.slot_top (h:jC eps f n L) (h0:0<L.length):iF q L (L.length-1)=0:=by
 unfold iF;rw [h.top (fun e=>by rw [e] at h0;simp at h0)]
 exact aac _ _
theorem aad (i:Nat):iF q L i=rs (bj f L (i+1)) (bD n L (i+1)) q:=by
 unfold iF bj bD;rw [if_neg (by omega),if_neg (by omega)]
 rfl
theorem jC.window (h:jC eps f n L) (q1:q<18446744073709551616) {i:Nat} (hi:i<L.length):(eR eps q f n L i).lo<=(eR eps q f n L i).rk/\(eR eps q f n L i).rk<=(eR eps q f n L i).hi:=by
 have V:=h.vis (q:=q) q1 hi;have a:=V.lo;have b:=V.hi;have c:=V.far;show max (dy q L i).fr (iG q L i-eps-1)<=(ax (bj f L i) q (bD n L i):Int)/\(ax (bj f L i) q (bD n L i):Int)<=min (dy q L i).te (iG q L i+eps+1);unfold iG;omega
theorem jC.below (h:jC eps f n L) {i:Nat} (hi:i<L.length):(∀ r,r<ax (bj f L i) q (bD n L i)->bj f L i r<q)/\∀ r,ax (bj f L i) q (bD n L i)<=r->r<bD n L i->q<=bj f L i r :=
 oN (h.lvl i hi).up q _ (Nat.le_refl _)
theorem jC.bounds (h:jC eps f n L) (q1:q<18446744073709551616) {i:Nat} (hi:i<L.length):0<=(dy q L i).fr/\(dy q L i).fr<(dy q L i).te/\(dy q L i).te<=4294967296/\(dy q L i).te<=bD n L i/\(dy q L i).fr<=iG q L i/\iG q L i<=(dy q L i).te/\0<=(dy q L i).k:=by
 have V:=h.vis (q:=q) q1 hi;obtain ⟨a,b,c,d,e⟩:=lY.1 V.e0;have K:=h.lvl i hi;have sl:=h.slot (q:=q) hi;have mem:dy q L i∈L.getD i []:=by
  unfold dy;generalize L.getD i []=l at sl;rw [List.getD_eq_getElem?_getD,List.getElem?_eq_getElem sl];exact List.getElem_mem sl
 have kk:=(kR.1 (K.ok _ mem)).2.1;have k0:0<=(dy q L i).k:=by
  rw [kk];exact (K.bd _ (by have:=V.ten;omega)).1
 have g:=yN (q:=q) V.e0 k0 q1;exact ⟨a,b,c,V.ten,g.1,g.2,k0⟩
end
structure zp (eps q:Int) (f:Nat->Int) (n:Nat) (L:List (List Sg)) (A B:List (Int×Int)):Prop where
 an:A.Nodup
 ain:∀ a∈A,∃ i,i<L.length/\a.1=i/\(eR eps q f n L i).lo<=a.2/\a.2<=(eR eps q f n L i).hi/\a.2<(dy q L i).te
 bn:B.Nodup
 bl:B.length=L.length
 bin:∀ b∈B,∃ i,i<L.length/\b.1=(i:Int)+1/\b.2=iF q L i
open Go.RowKit
abbrev Mu (v:fR):Value:=.agg #[.int .i64 v.lv,.int .i64 v.sl,.int .i64 v.gu,.int .i64 v.lo,.int .i64 v.hi,.int .i64 v.rk]
def aae (v:fR):List Value:=[.int .i64 v.lv,.int .i64 v.sl,.int .i64 v.gu,.int .i64 v.lo,.int .i64 v.hi,.int .i64 v.rk]
structure Mv (w:World) (b off:Nat) (v:fR):Prop where
 c0:w.cell? ⟨b,off,none⟩=some (.int .i64 v.lv)
 c1:w.cell? ⟨b,off+1,none⟩=some (.int .i64 v.sl)
 c2:w.cell? ⟨b,off+2,none⟩=some (.int .i64 v.gu)
 c3:w.cell? ⟨b,off+3,none⟩=some (.int .i64 v.lo)
 c4:w.cell? ⟨b,off+4,none⟩=some (.int .i64 v.hi)
 c5:w.cell? ⟨b,off+5,none⟩=some (.int .i64 v.rk)
def VR (w:World) (base:Nat) (v:Value) (l:List fR):Prop:=w.ownsRow base 180 6 v l.length (l.flatMap aae)
def Mw (HP:World->Nat->(Nat->Prop)->Int->(Nat->Int)->Nat->List (List Sg)->Prop) (w w':World) (ex:Ending) (eps:Int) (f:Nat->Int) (n:Nat) (L:List (List Sg)):Prop :=
 ∃ E,iU eps f n L E/\((E≠0/\ex=.returned (.tuple #[.pointer none,.int .i64 E]))\/(E=0/\∃ p S,ex=.returned (.tuple #[.pointer (some ⟨p,0,none⟩),.int .i64 0])/\(∀ q,S q->w.heap.size<=q)/\HP w' p S eps f n L))
def vp (f:Nat->Int) (n:Nat) (q:Int):Value:=.tuple #[.int .i64 (ax f q n:Nat),.bool (decide (ax f q n<n/\f (ax f q n)=q))]
structure mw (eps:Int) (f:Nat->Int) (n:Nat) (L:List (List Sg)):Prop where
 e0:2<=eps
 e1:eps<=64
 lv:jC eps f n L
 z:L.length=0↔n=0
 n1:n<=2000000
 sh:kT L
theorem mw.of {eps:Int} {f:Nat->Int} {n:Nat} {L:List (List Sg)} (h:iU eps f n L 0) (n1:n<=2000000) (sh:kT L) (bd:∀ t,t<n->0<=f t/\f t<18446744073709551616):mw eps f n L:=by
 rcases h with ⟨_,q⟩ | ⟨_,_,q⟩ | ⟨_,_,_,q⟩ | ⟨a,b,c,q⟩
 ·cases q
 ·cases q
 ·cases q
 ·have:=aaa b bd q.symm
  exact ⟨a.1,a.2,⟨this.1,this.2⟩,c.2,n1,sh⟩
def eS (n:Nat) (L:List (List Sg)) (lv:Int):Nat:=if 0<=lv/\lv<=L.length then bD n L lv.toNat else 0
def qM (f:Nat->Int) (n:Nat) (L:List (List Sg)) (lv sl:Int):Int:=if (0<=lv/\lv<=L.length)/\0<=sl/\sl<bD n L lv.toNat then bj f L lv.toNat sl.toNat else 0
def iW (L:List (List Sg)) (lv sl:Int):Sg:=if (1<=lv/\lv<=L.length)/\0<=sl/\sl<(L.getD (lv.toNat-1) []).length then (L.getD (lv.toNat-1) []).getD sl.toNat az else az
theorem aaf {f:Nat->Int} {n:Nat} (u:Up f n) {i:Nat} (hi:i<n):ax f (f i) n=i:=by
 obtain ⟨a,b⟩:=oN u (f i) n (Nat.le_refl _);have le:=nI f (f i) n;rcases Nat.lt_trichotomy (ax f (f i) n) i with c | c | c
 ·have x:=b _ (Nat.le_refl _) (by omega)
  have y:=u.lt c hi;omega
 ·exact c
 ·have:=a i c
  omega
def asks (A:List (Int×Int)) (l:Int):Nat:=(A.filter fun a=>decide (a.1=l)).length
end Go.Proofs.YtklkpldicbkjeaaGreat
