/- The descent through right levels: which segment stands for q, and where q's rank lies. No Go in it. -/
import Derived.Test.YtemijdhemdhclaaGreatNPVo
import Derived.Test.YtemijdhemdhclaaGreatNR4Add
set_option linter.unusedVariables false
set_option maxHeartbeats 4000000
set_option maxRecDepth 10000
open Go.Proofs.Tryz
namespace Go.Proofs.YtemijdhemdhclaaGreat
structure LvR (eps:Int) (f:Nat->Int) (n:Nat) (l:List Sg):Prop where
 up:Up f n
 bd:∀ t,t<n->0<=f t/\f t<18446744073709551616
 tl:tileB n 0 l=true
 ne:l≠[]
 ok:∀ s∈l,segE eps f s=0
def rowF (f:Nat->Int) (L:List (List Sg)) (j:Nat):Nat->Int:=if j=0 then f else fst8 (L.getD (j-1) [])
def rowN (n:Nat) (L:List (List Sg)) (j:Nat):Nat:=if j=0 then n else (L.getD (j-1) []).length
theorem chk_levels {eps:Int}:∀ {L:List (List Sg)} {f:Nat->Int} {n:Nat},Up f n->(∀ t,t<n->0<=f t/\f t<18446744073709551616)->chkE eps f n L=0->(∀ i,i<L.length->LvR eps (rowF f L i) (rowN n L i) (L.getD i []))/\(L≠[]->(L.getD (L.length-1) []).length=1):=by
 intro L;induction L with
 | nil=>intro f n _ _ _;exact ⟨fun i hi=>by simp at hi,fun h=>absurd rfl h⟩
 | cons l r ih =>
  intro f n u bd h;unfold chkE at h;by_cases t:(tileB n 0 l&&!l.isEmpty)=false
  ·rw [if_pos t] at h;omega
  ·rw [if_neg t] at h
   have t':tileB n 0 l=true/\l≠[]:=by
    have:(tileB n 0 l&&!l.isEmpty)=true:=by simpa using t
    rw [Bool.and_eq_true] at this;refine ⟨this.1,fun e=>?_⟩
    rw [e] at this;simp at this
   by_cases z:lvlE eps f l=0
   ·rw [if_neg (fun q=>q z)] at h
    have K:LvR eps f n l:=⟨u,bd,t'.1,t'.2,lvlE_ok.1 z⟩;obtain ⟨u1,_,u3⟩:=fst8_up u t'.1 (fun s hs=>(segE_ok.1 (K.ok s hs)).2.1)
    by_cases e:r=[]
    ·subst e
     rw [if_pos rfl] at h;by_cases o:l.length=1
     ·refine ⟨fun i hi=>?_,fun _=>o⟩
      have:i=0:=by simp at hi;omega
      subst this;exact K
     ·rw [if_neg o] at h;omega
    ·rw [if_neg e] at h
     obtain ⟨a,b⟩:=ih u1 (fst8_bd bd u3) h;have rl:=List.length_pos_iff.2 e;refine ⟨fun i hi=>?_,fun _=>?_⟩
     ·cases i with
      | zero=>exact K
      | succ i =>
       have:=a i (by simpa using hi)
       have e1:rowF f (l::r) (i+1)=rowF (fst8 l) r i:=by
        unfold rowF;rw [if_neg (by omega)]
        cases i with
        | zero=>rw [if_pos rfl];rfl
        | succ i=>rw [if_neg (by omega)];rfl
       have e2:rowN n (l::r) (i+1)=rowN l.length r i:=by
        unfold rowN;rw [if_neg (by omega)]
        cases i with
        | zero=>rw [if_pos rfl];rfl
        | succ i=>rw [if_neg (by omega)];rfl
       rw [e1,e2];exact this
     ·rw [List.length_cons,show r.length+1-1=(r.length-1)+1 by omega]
      exact b e
   ·rw [if_pos z] at h;exact absurd h z
def rs (f:Nat->Int) (n:Nat) (q:Int):Nat:=if cntb f q n<n/\f (cntb f q n)=q then cntb f q n else cntb f q n-1
theorem rs_pick {f:Nat->Int} {n:Nat} (u:Up f n) (n0:0<n) (q:Int):rs f n q<n/\(rs f n q=0\/f (rs f n q)<=q)/\∀ t,rs f n q<t->t<n->q<f t:=by
 obtain ⟨a,b⟩:=cntb_up u q n (Nat.le_refl _);have le:=cntb_le f q n;unfold rs;by_cases h:cntb f q n<n/\f (cntb f q n)=q
 ·rw [if_pos h]
  refine ⟨h.1,.inr (by omega),fun t h1 h2=>?_⟩
  have:=u.lt h1 h2
  omega
 ·rw [if_neg h]
  refine ⟨by omega,?_,fun t h1 h2=>?_⟩
  ·by_cases c:cntb f q n=0
   ·exact .inl (by omega)
   ·have:=a (cntb f q n-1) (by omega)
    exact .inr (by omega)
  ·have k:=b t (by omega) h2
   by_cases c:t=cntb f q n
   ·subst c
    have:f (cntb f q n)≠q:=fun e=>h ⟨h2,e⟩
    omega
   ·have c1:cntb f q n<n:=by omega
    have k1:=b (cntb f q n) (Nat.le_refl _) c1;have k2:=u.lt (show cntb f q n<t by omega) h2
    omega
structure VisR (eps:Int) (f:Nat->Int) (n:Nat) (s:Sg) (q:Int):Prop where
 e0:errM s.sl s.ic s.fr s.te=0
 lo:s.fr<=cntb f q n
 hi:(cntb f q n:Int)<=s.te
 ten:s.te<=n
 far:-(eps+1)<=guessV s.k s.sl s.ic s.fr s.te q-cntb f q n/\guessV s.k s.sl s.ic s.fr s.te q-cntb f q n<=eps+1
 near:(cntb f q n<n/\f (cntb f q n)=q)->-eps<=guessV s.k s.sl s.ic s.fr s.te q-cntb f q n/\guessV s.k s.sl s.ic s.fr s.te q-cntb f q n<=eps
 there:((cntb f q n:Int)<s.te/\f (cntb f q n)=q)↔(cntb f q n<n/\f (cntb f q n)=q)
 next:¬ ((cntb f q n:Int)<s.te/\f (cntb f q n)=q)->max ((cntb f q n:Int)-1) s.fr=rs f n q
theorem visit_right {eps:Int} {f:Nat->Int} {n:Nat} {l:List Sg} (h:LvR eps f n l) (q:Int) (q1:q<18446744073709551616):VisR eps f n (l.getD (rs (fst8 l) l.length q) sg0) q:=by
 have l0:=List.length_pos_iff.2 h.ne;obtain ⟨u1,_,_⟩:=fst8_up h.up h.tl (fun s hs=>(segE_ok.1 (h.ok s hs)).2.1)
 obtain ⟨r1,r2,r3⟩:=rs_pick u1 l0 q;generalize rs (fst8 l) l.length q=t at r1 r2 r3;obtain ⟨s,hs⟩:∃ s,l.getD t sg0=s:=⟨_,rfl⟩;have T:=tile_at h.tl t r1;have mem:s∈l:=by
  rw [<-hs,List.getD_eq_getElem?_getD,List.getElem?_eq_getElem r1];exact List.getElem_mem r1
 obtain ⟨er,hk,_⟩:=segE_ok.1 (h.ok s mem);have N:=near_lvl h.up h.bd h.tl h.ok q q1 t r1 r2 r3 s hs;rw [hs] at T ⊢;obtain ⟨T1,T2,T3,T4,T5,T6⟩:=T;obtain ⟨c1,c2⟩:=cntb_up h.up q n (Nat.le_refl _);have cl:=cntb_le f q n;have fk:fst8 l t=f s.fr.toNat:=by
  show (l.getD t sg0).k=_;rw [hs];exact hk
 have beh:∀ i:Nat,s.te<=(i:Int)->i<n->q<f i:=fun i h1 h2=>by
  by_cases c:t+1<l.length
  ·have e:=T5 c
   have m':l.getD (t+1) sg0∈l:=by
    rw [List.getD_eq_getElem?_getD,List.getElem?_eq_getElem c];exact List.getElem_mem c
   have k':=(segE_ok.1 (h.ok _ m')).2.1;have lt:=r3 (t+1) (by omega) c
   have e2:fst8 l (t+1)=f s.te.toNat:=by
    show (l.getD (t+1) sg0).k=_;rw [k',e]
   rw [e2] at lt;have:=h.up.le (show s.te.toNat<=i by omega) h2
   omega
  ·have:=T6 (by omega)
   omega
 have lo:s.fr<=cntb f q n:=by
  rcases r2 with z | z
  ·have:=T4 z;omega
  ·rw [fk] at z
   by_cases c:s.fr<=(cntb f q n:Int)
   ·exact c
   ·exfalso
    have x:=c2 (cntb f q n) (Nat.le_refl _) (by omega)
    have y:=h.up.lt (show cntb f q n<s.fr.toNat by omega) (by omega)
    omega
 have hi:(cntb f q n:Int)<=s.te:=by
  by_cases c:(cntb f q n:Int)<=s.te
  ·exact c
  ·exfalso
   have x:=c1 s.te.toNat (by omega)
   have y:=beh s.te.toNat (by omega) (by omega)
   omega
 have th:((cntb f q n:Int)<s.te/\f (cntb f q n)=q)↔(cntb f q n<n/\f (cntb f q n)=q):=by
  constructor
  ·exact fun x=>⟨by omega,x.2⟩
  ·intro x
   refine ⟨?_,x.2⟩;by_cases c:(cntb f q n:Int)<s.te
   ·exact c
   ·have:=beh (cntb f q n) (by omega) x.1
    omega
 refine ⟨er,lo,hi,T3,N.1,fun x=>N.2 ⟨_,x.1,x.2⟩,th,fun x=>?_⟩
 have nx:¬ (cntb f q n<n/\f (cntb f q n)=q):=fun y=>x (th.2 y)
 unfold rs;rw [if_neg nx];by_cases c:(cntb f q n:Int)=s.fr
 ·
  have z:cntb f q n=0:=by
   rcases r2 with z | z
   ·have:=T4 z;omega
   ·exfalso
    rw [fk] at z;have e:s.fr.toNat=cntb f q n:=by omega
    rw [e] at z;have:=c2 (cntb f q n) (Nat.le_refl _) (by omega)
    exact nx ⟨by omega,by omega⟩
  omega
 ·omega
theorem rs_one (f:Nat->Int) (q:Int):rs f 1 q=0:=by
 have:=cntb_le f q 1
 unfold rs;split<;>omega
structure Vis where
 lv:Int
 sl:Int
 gu:Int
 lo:Int
 hi:Int
 rk:Int
def slotA (q:Int) (L:List (List Sg)) (i:Nat):Nat:=rs (fst8 (L.getD i [])) (L.getD i []).length q
def segA (q:Int) (L:List (List Sg)) (i:Nat):Sg:=(L.getD i []).getD (slotA q L i) sg0
def guessA (q:Int) (L:List (List Sg)) (i:Nat):Int:=guessV (segA q L i).k (segA q L i).sl (segA q L i).ic (segA q L i).fr (segA q L i).te q
def visAt (eps q:Int) (f:Nat->Int) (n:Nat) (L:List (List Sg)) (i:Nat):Vis :=
 ⟨i,slotA q L i,guessA q L i,max (segA q L i).fr (guessA q L i-eps-1),min (segA q L i).te (guessA q L i+eps+1),cntb (rowF f L i) q (rowN n L i)⟩
def pathL (eps q:Int) (f:Nat->Int) (n:Nat) (L:List (List Sg)):List Vis:=(List.range L.length).map fun j=>visAt eps q f n L (L.length-1-j)
structure Lvs (eps:Int) (f:Nat->Int) (n:Nat) (L:List (List Sg)):Prop where
 lvl:∀ i,i<L.length->LvR eps (rowF f L i) (rowN n L i) (L.getD i [])
 top:L≠[]->(L.getD (L.length-1) []).length=1
section
variable {eps q:Int} {f:Nat->Int} {n:Nat} {L:List (List Sg)}
theorem Lvs.vis (h:Lvs eps f n L) (q1:q<18446744073709551616) {i:Nat} (hi:i<L.length):VisR eps (rowF f L i) (rowN n L i) (segA q L i) q:=visit_right (h.lvl i hi) q q1
theorem Lvs.slot (h:Lvs eps f n L) {i:Nat} (hi:i<L.length):slotA q L i<(L.getD i []).length:=by
 have K:=h.lvl i hi;obtain ⟨u1,_,_⟩:=fst8_up K.up K.tl (fun s hs=>(segE_ok.1 (K.ok s hs)).2.1)
 exact (rs_pick u1 (List.length_pos_iff.2 K.ne) q).1
theorem Lvs.slot_top (h:Lvs eps f n L) (h0:0<L.length):slotA q L (L.length-1)=0:=by
 unfold slotA;rw [h.top (fun e=>by rw [e] at h0;simp at h0)]
 exact rs_one _ _
theorem slot_row (i:Nat):slotA q L i=rs (rowF f L (i+1)) (rowN n L (i+1)) q:=by
 unfold slotA rowF rowN;rw [if_neg (by omega),if_neg (by omega)]
 rfl
theorem Lvs.window (h:Lvs eps f n L) (q1:q<18446744073709551616) {i:Nat} (hi:i<L.length):(visAt eps q f n L i).lo<=(visAt eps q f n L i).rk/\(visAt eps q f n L i).rk<=(visAt eps q f n L i).hi:=by
 have V:=h.vis (q:=q) q1 hi;have a:=V.lo;have b:=V.hi;have c:=V.far;show max (segA q L i).fr (guessA q L i-eps-1)<=(cntb (rowF f L i) q (rowN n L i):Int)/\(cntb (rowF f L i) q (rowN n L i):Int)<=min (segA q L i).te (guessA q L i+eps+1);unfold guessA;omega
theorem Lvs.below (h:Lvs eps f n L) {i:Nat} (hi:i<L.length):(∀ r,r<cntb (rowF f L i) q (rowN n L i)->rowF f L i r<q)/\∀ r,cntb (rowF f L i) q (rowN n L i)<=r->r<rowN n L i->q<=rowF f L i r :=
 cntb_up (h.lvl i hi).up q _ (Nat.le_refl _)
theorem Lvs.bounds (h:Lvs eps f n L) (q1:q<18446744073709551616) {i:Nat} (hi:i<L.length):0<=(segA q L i).fr/\(segA q L i).fr<(segA q L i).te/\(segA q L i).te<=4294967296/\(segA q L i).te<=rowN n L i/\(segA q L i).fr<=guessA q L i/\guessA q L i<=(segA q L i).te/\0<=(segA q L i).k:=by
 have V:=h.vis (q:=q) q1 hi;obtain ⟨a,b,c,d,e⟩:=errM_ok.1 V.e0;have K:=h.lvl i hi;have sl:=h.slot (q:=q) hi;have mem:segA q L i∈L.getD i []:=by
  unfold segA;generalize L.getD i []=l at sl;rw [List.getD_eq_getElem?_getD,List.getElem?_eq_getElem sl];exact List.getElem_mem sl
 have kk:=(segE_ok.1 (K.ok _ mem)).2.1;have k0:0<=(segA q L i).k:=by
  rw [kk];exact (K.bd _ (by have:=V.ten;omega)).1
 have g:=guessV_in (q:=q) V.e0 k0 q1;exact ⟨a,b,c,V.ten,g.1,g.2,k0⟩
end
structure AskR (eps q:Int) (f:Nat->Int) (n:Nat) (L:List (List Sg)) (A B:List (Int×Int)):Prop where
 an:A.Nodup
 ain:∀ a∈A,∃ i,i<L.length/\a.1=i/\(visAt eps q f n L i).lo<=a.2/\a.2<=(visAt eps q f n L i).hi/\a.2<(segA q L i).te
 bn:B.Nodup
 bl:B.length=L.length
 bin:∀ b∈B,∃ i,i<L.length/\b.1=(i:Int)+1/\b.2=slotA q L i
open Go.RowKit
abbrev visV (v:Vis):Value:=.agg #[.int .i64 v.lv,.int .i64 v.sl,.int .i64 v.gu,.int .i64 v.lo,.int .i64 v.hi,.int .i64 v.rk]
def visc (v:Vis):List Value:=[.int .i64 v.lv,.int .i64 v.sl,.int .i64 v.gu,.int .i64 v.lo,.int .i64 v.hi,.int .i64 v.rk]
structure VisAt (w:World) (b off:Nat) (v:Vis):Prop where
 c0:w.cell? ⟨b,off,none⟩=some (.int .i64 v.lv)
 c1:w.cell? ⟨b,off+1,none⟩=some (.int .i64 v.sl)
 c2:w.cell? ⟨b,off+2,none⟩=some (.int .i64 v.gu)
 c3:w.cell? ⟨b,off+3,none⟩=some (.int .i64 v.lo)
 c4:w.cell? ⟨b,off+4,none⟩=some (.int .i64 v.hi)
 c5:w.cell? ⟨b,off+5,none⟩=some (.int .i64 v.rk)
def VR (w:World) (base:Nat) (v:Value) (l:List Vis):Prop:=w.ownsRow base 151 6 v l.length (l.flatMap visc)
def PileOut (HP:World->Nat->(Nat->Prop)->Int->(Nat->Int)->Nat->List (List Sg)->Prop) (w w':World) (ex:Ending) (eps:Int) (f:Nat->Int) (n:Nat) (L:List (List Sg)):Prop :=
 ∃ E,CheckR eps f n L E/\((E≠0/\ex=.returned (.tuple #[.pointer none,.int .i64 E]))\/(E=0/\∃ p S,ex=.returned (.tuple #[.pointer (some ⟨p,0,none⟩),.int .i64 0])/\(∀ q,S q->w.heap.size<=q)/\HP w' p S eps f n L))
def foundV (f:Nat->Int) (n:Nat) (q:Int):Value:=.tuple #[.int .i64 (cntb f q n:Nat),.bool (decide (cntb f q n<n/\f (cntb f q n)=q))]
structure Ready (eps:Int) (f:Nat->Int) (n:Nat) (L:List (List Sg)):Prop where
 e0:2<=eps
 e1:eps<=64
 lv:Lvs eps f n L
 z:L.length=0↔n=0
 n1:n<=2000000
 sh:Short L
theorem Ready.of {eps:Int} {f:Nat->Int} {n:Nat} {L:List (List Sg)} (h:CheckR eps f n L 0) (n1:n<=2000000) (sh:Short L) (bd:∀ t,t<n->0<=f t/\f t<18446744073709551616):Ready eps f n L:=by
 rcases h with ⟨_,q⟩ | ⟨_,_,q⟩ | ⟨_,_,_,q⟩ | ⟨a,b,c,q⟩
 ·cases q
 ·cases q
 ·cases q
 ·have:=chk_levels b bd q.symm
  exact ⟨a.1,a.2,⟨this.1,this.2⟩,c.2,n1,sh⟩
def sizeV (n:Nat) (L:List (List Sg)) (lv:Int):Nat:=if 0<=lv/\lv<=L.length then rowN n L lv.toNat else 0
def keyV (f:Nat->Int) (n:Nat) (L:List (List Sg)) (lv sl:Int):Int:=if (0<=lv/\lv<=L.length)/\0<=sl/\sl<rowN n L lv.toNat then rowF f L lv.toNat sl.toNat else 0
def segW (L:List (List Sg)) (lv sl:Int):Sg:=if (1<=lv/\lv<=L.length)/\0<=sl/\sl<(L.getD (lv.toNat-1) []).length then (L.getD (lv.toNat-1) []).getD sl.toNat sg0 else sg0
theorem cntb_key {f:Nat->Int} {n:Nat} (u:Up f n) {i:Nat} (hi:i<n):cntb f (f i) n=i:=by
 obtain ⟨a,b⟩:=cntb_up u (f i) n (Nat.le_refl _);have le:=cntb_le f (f i) n;rcases Nat.lt_trichotomy (cntb f (f i) n) i with c | c | c
 ·have x:=b _ (Nat.le_refl _) (by omega)
  have y:=u.lt c hi;omega
 ·exact c
 ·have:=a i c
  omega
def asks (A:List (Int×Int)) (l:Int):Nat:=(A.filter fun a=>decide (a.1=l)).length
end Go.Proofs.YtemijdhemdhclaaGreat
namespace Go.Proofs.YtemijdhemdhclaaGreat
open Go.RowKit
attribute [local go_sem] run_store_float
structure HPile (w:World) (p:Nat) (S:Nat->Prop) (eps:Int) (f:Nat->Int) (n:Nat) (L:List (List Sg)):Prop where
 lies:∃ (u:World) (base:Nat) (ko:Option Addr) (kc:Nat) (lo:Option Addr) (lc:Nat),(∀ q,S q↔base<=q/\q<u.heap.size)/\u.heap.size<=w.heap.size/\(∀ q,base<=q->q<u.heap.size->w.heap[q]?=u.heap[q]?)/\u.heap[p]?=some (.cells #[.int .i64 eps,.slice ko n kc,.slice lo L.length lc] 136 (0,0))/\base<=p/\KS u ko n f/\(∀ a,ko=some a->base<=a.block)/\VSf u base lo L
 n1:n<=2000000
 sh:Short L
theorem HPile.lt {w:World} {p:Nat} {S:Nat->Prop} {eps:Int} {f:Nat->Int} {n:Nat} {L:List (List Sg)} (h:HPile w p S eps f n L):∀ q,S q->q<w.heap.size:=by
 obtain ⟨u,base,ko,kc,lo,lc,h1,h2,_⟩:=h.lies;intro q hq;have:=(h1 q).1 hq;omega
theorem HPile.keep {w w':World} {p:Nat} {S:Nat->Prop} {eps:Int} {f:Nat->Int} {n:Nat} {L:List (List Sg)} (h:HPile w p S eps f n L) (k:∀ q,S q->w'.heap[q]?=w.heap[q]?):HPile w' p S eps f n L:=by
 obtain ⟨u,base,ko,kc,lo,lc,h1,h2,h3,h4,h5,h6⟩:=h.lies;have pu:p<u.heap.size:=(Array.getElem?_eq_some_iff.1 h4).1;refine ⟨⟨u,base,ko,kc,lo,lc,h1,?_,fun q a b=>(k q ((h1 q).2 ⟨a,b⟩)).trans (h3 q a b),h4,h5,h6⟩,h.n1,h.sh⟩
 have e:=k (u.heap.size-1) ((h1 _).2 ⟨by omega,by omega⟩)
 rw [Array.getElem?_eq_getElem (show u.heap.size-1<w.heap.size by omega)] at e
 have:=(Array.getElem?_eq_some_iff.1 e).1
 omega
theorem HPile.opened {w:World} {p:Nat} {S:Nat->Prop} {eps:Int} {f:Nat->Int} {n:Nat} {L:List (List Sg)} (h:HPile w p S eps f n L):∃ ko kc lo lc,w.heap[p]?=some (.cells #[.int .i64 eps,.slice ko n kc,.slice lo L.length lc] 136 (0,0))/\KS w ko n f/\VS w lo L:=by
 obtain ⟨u,base,ko,kc,lo,lc,h1,h2,h3,h4,h5,h6,h7,h8⟩:=h.lies;have pu:p<u.heap.size:=(Array.getElem?_eq_some_iff.1 h4).1;refine ⟨ko,kc,lo,lc,(h3 p h5 pu).trans h4,⟨fun hn=>?_,h6.bd⟩,(h8.keep (fun q a b=>h3 q a b) h2).vs⟩
 obtain ⟨b,off,e,hb,hc⟩:=h6.cells hn;have bb:base<=b:=h7 _ e;exact ⟨b,off,e,by omega,fun i hi=>(World.cell?_of_block (a:=⟨b,off+i,none⟩) (h3 b bb hb)).trans (hc i hi)⟩
theorem pl_cells {w:World} {p:Nat} {a b c:Value} {t:TypeId} (h:w.heap[p]?=some (.cells #[a,b,c] t (0,0))):w.cell? ⟨p,0,none⟩=some a/\w.cell? ⟨p,1,none⟩=some b/\w.cell? ⟨p,2,none⟩=some c:=by
 refine ⟨?_,?_,?_⟩<;>simp [World.cell?,h]
theorem pl_eps {w:World} {p:Nat} {S:Nat->Prop} {eps:Int} {f:Nat->Int} {n:Nat} {L:List (List Sg)} (h:HPile w p S eps f n L) :
  Calls prog 76 #[.pointer (some ⟨p,0,none⟩)] w fun e w'=>e=.returned (.int .i64 eps)/\w'=w:=by
 obtain ⟨ko,kc,lo,lc,h1,_⟩:=h.opened;obtain ⟨c0,c1,c2⟩:=pl_cells h1;clear h h1;go_enter func76,ntmps76;go_wp2_with fail;go_ret;exact ⟨rfl,rfl⟩
theorem pl_height {w:World} {p:Nat} {S:Nat->Prop} {eps:Int} {f:Nat->Int} {n:Nat} {L:List (List Sg)} (h:HPile w p S eps f n L) :
  Calls prog 206 #[.pointer (some ⟨p,0,none⟩)] w fun e w'=>e=.returned (.int .i64 (L.length:Int))/\w'=w:=by
 obtain ⟨ko,kc,lo,lc,h1,_⟩:=h.opened;obtain ⟨c0,c1,c2⟩:=pl_cells h1;clear h h1;go_enter func206,ntmps206;go_wp2_with fail;go_ret;exact ⟨rfl,rfl⟩
theorem pl_size {w:World} {p:Nat} {S:Nat->Prop} {eps:Int} {f:Nat->Int} {n:Nat} {L:List (List Sg)} (h:HPile w p S eps f n L) (lv:Int) (l0:-9223372036854775808<=lv) (l1:lv<9223372036854775808) :
  Calls prog 210 #[.pointer (some ⟨p,0,none⟩),.int .i64 lv] w fun e w'=>e=.returned (.int .i64 (sizeV n L lv:Nat))/\w'=w:=by
 obtain ⟨ko,kc,lo,lc,h1,hk,hv⟩:=h.opened;obtain ⟨c0,c1,c2⟩:=pl_cells h1;have pl:p<w.heap.size:=(Array.getElem?_eq_some_iff.1 h1).1;have hl:=h.sh.1;obtain ⟨ln,hln⟩:∃ ln,L.length=ln:=⟨_,rfl⟩;have LN:Aside _:=hln;rw [hln] at c2 hl;have HV:Aside _:=hv;clear h h1 hk hv hln;by_cases z:lv=0
 ·have e:sizeV n L lv=n:=by rw [z];unfold sizeV;rw [if_pos ⟨Int.le_refl _,by omega⟩];rfl
  have t0:(lv == 0)=true:=by simpa using z
  rw [e];clear e z;go_enter func210,ntmps210;go_wp2_with fail;go_ret;exact ⟨rfl,rfl⟩
 ·have t0:(lv == 0)=false:=by simpa using z
  by_cases a:lv<0
  ·have e:sizeV n L lv=0:=by unfold sizeV;rw [if_neg (fun x=>by have:=x.1;omega)]
   have t1:decide (lv<0)=true:=by simpa using a
   rw [e];clear e z;go_enter func210,ntmps210;go_wp2_with fail;go_ret;exact ⟨rfl,rfl⟩
  ·have t1:decide (lv<0)=false:=by simpa using a
   by_cases b:(ln:Int)<lv
   ·have e:sizeV n L lv=0:=by unfold sizeV;rw [if_neg (fun x=>by have:=x.2;rw [LN.out] at this;omega)]
    have t2:decide ((ln:Int)<lv)=true:=by simpa using b
    rw [e];clear e z;go_enter func210,ntmps210;go_wp2_with fail;go_ret;exact ⟨rfl,rfl⟩
   ·obtain ⟨i,hi⟩:∃ i:Nat,lv=(i:Int)+1:=⟨(lv-1).toNat,by omega⟩
    have e:sizeV n L lv=(L.getD i []).length:=by
     unfold sizeV;rw [if_pos ⟨by omega,by rw [LN.out];omega⟩,show lv.toNat=i+1 by omega]
     rfl
    have t2:decide ((ln:Int)<lv)=false:=by simpa using b
    have w1:IntKind.i64.wrap (lv-1)=(i:Int):=by rw [IntKind.wrap_i64];omega
    obtain ⟨lb,lf,rfl,hlb,hlc⟩:=HV.out.cells (by rw [LN.out];omega)
    obtain ⟨so,sc,q1,_,_,_⟩:=hlc i (by rw [LN.out];omega)
    have il:i<ln:=by omega
    have il':(i:Int)<(ln:Int):=by omega
    rw [e];generalize (L.getD i []).length=sn at q1 ⊢;clear e z hlc hi;go_enter func210,ntmps210;go_wp2_with fail;go_ret;exact ⟨rfl,rfl⟩
theorem pl_has {w:World} {p:Nat} {S:Nat->Prop} {eps:Int} {f:Nat->Int} {n:Nat} {L:List (List Sg)} (h:HPile w p S eps f n L) (lv sl:Int) (l0:-9223372036854775808<=lv) (l1:lv<9223372036854775808) :
  Calls prog 209 #[.pointer (some ⟨p,0,none⟩),.int .i64 lv,.int .i64 sl] w fun e w'=>e=.returned (.bool (decide (0<=sl/\sl<(sizeV n L lv:Nat))))/\w'=w:=by
 have SZ:Hid _:=pl_size h lv l0 l1;clear h;generalize sizeV n L lv=z at SZ ⊢;by_cases a:0<=sl
 ·have t1:decide (0<=sl)=true:=by simpa using a
  have e:decide (0<=sl/\sl<(z:Int))=decide (sl<(z:Int)):=by
   by_cases b:sl<(z:Int)
   ·rw [decide_eq_true b,decide_eq_true ⟨a,b⟩]
   ·rw [decide_eq_false b,decide_eq_false (fun x=>b x.2)]
  rw [e];obtain ⟨d,hd⟩:∃ d,decide (sl<(z:Int))=d:=⟨_,rfl⟩;rw [hd];clear e;go_enter func209,ntmps209;go_wp2_with fail;refine Calls.mono SZ.out ?_;rintro e w2 ⟨rfl,hw⟩;have hw':w=w2:=hw.symm;subst hw';clear hw SZ;go_wp2_with fail;go_ret;exact ⟨rfl,rfl⟩
 ·have t1:decide (0<=sl)=false:=by simpa using a
  rw [decide_eq_false (fun x=>a x.1)]
  go_enter func209,ntmps209;go_wp2_with fail;go_ret;exact ⟨rfl,rfl⟩
theorem pl_seg {w:World} {p:Nat} {S:Nat->Prop} {eps:Int} {f:Nat->Int} {n:Nat} {L:List (List Sg)} (h:HPile w p S eps f n L) (lv sl:Int) (l0:-9223372036854775808<=lv) (l1:lv<9223372036854775808) (s0:-9223372036854775808<=sl) (s1:sl<9223372036854775808) :
  Calls prog 208 #[.pointer (some ⟨p,0,none⟩),.int .i64 lv,.int .i64 sl] w fun e w'=>e=.returned (sgV (segW L lv sl))/\Gw w w':=by
 have HA:Hid (Calls prog 209 #[.pointer (some ⟨p,0,none⟩),.int .i64 lv,.int .i64 sl] (w.alloc (.cells #[.int .u64 0,.float .f64 0,.float .f64 0,.int .i64 0,.int .i64 0] 170)) fun e w'=>e=.returned (.bool (decide (0<=sl/\sl<(sizeV n L lv:Nat))))/\w'=(w.alloc (.cells #[.int .u64 0,.float .f64 0,.float .f64 0,.int .i64 0,.int .i64 0] 170))):=pl_has (h.keep fun q hq=>heap_alloc_old w _ (h.lt q hq)) lv sl l0 l1
 obtain ⟨ko,kc,lo,lc,h1,hk,hv⟩:=h.opened;obtain ⟨c0,c1,c2⟩:=pl_cells h1;have pl:p<w.heap.size:=(Array.getElem?_eq_some_iff.1 h1).1;have hl:=h.sh.1;obtain ⟨ln,hln⟩:∃ ln,L.length=ln:=⟨_,rfl⟩;have LN:Aside _:=hln;rw [hln] at c2 hl;have HV:Aside _:=hv;clear h h1 hk hv hln;by_cases z:lv=0
 ·have e:segW L lv sl=sg0:=by unfold segW;rw [if_neg (fun x=>by have:=x.1.1;omega)]
  have t0:(lv == 0)=true:=by simpa using z
  rw [e];show Calls _ _ _ _ fun e w'=>e=.returned (.agg #[.int .u64 0,.float .f64 0,.float .f64 0,.int .i64 0,.int .i64 0])/\Gw w w'
  clear e z HA;go_enter func208,ntmps208;go_wp2_with fail;exact bodyPost_ret (v:=.agg #[.int .u64 0,.float .f64 0,.float .f64 0,.int .i64 0,.int .i64 0]) (by simp [results,results208,go_sem]) rfl ⟨rfl,(Gw.refl w).alloc _ _⟩
 ·have t0:(lv == 0)=false:=by simpa using z
  by_cases a:0<=sl/\sl<(sizeV n L lv:Nat)
  ·rw [decide_eq_true a] at HA
   have b:0<=lv/\lv<=L.length:=by
    by_cases x:0<=lv/\lv<=L.length
    ·exact x
    ·have:=a.2;unfold sizeV at this;rw [if_neg x] at this;omega
   rw [LN.out] at b;obtain ⟨i,hi⟩:∃ i:Nat,lv=(i:Int)+1:=⟨(lv-1).toNat,by omega⟩
   have e:sizeV n L lv=(L.getD i []).length:=by
    unfold sizeV;rw [if_pos ⟨by omega,by rw [LN.out];omega⟩,show lv.toNat=i+1 by omega]
    rfl
   rw [e] at a;obtain ⟨m,hm⟩:∃ m:Nat,sl=(m:Int):=⟨sl.toNat,by omega⟩
   have e2:segW L lv sl=(L.getD i []).getD m sg0:=by
    unfold segW;rw [show lv.toNat-1=i by omega,if_pos ⟨⟨by omega,by rw [LN.out];omega⟩,a.1,a.2⟩,show sl.toNat=m by omega]
   rw [e2];have w1:IntKind.i64.wrap (lv-1)=(i:Int):=by rw [IntKind.wrap_i64];omega
   obtain ⟨lb,lf,rfl,hlb,hlc⟩:=HV.out.cells (by rw [LN.out];omega)
   obtain ⟨so,sc,q1,_,_,q4⟩:=hlc i (by rw [LN.out];omega)
   obtain ⟨gb,gf,rfl,hgb,hgc⟩:=q4.cells (by omega)
   have ck:=hgc m (by omega)
   obtain ⟨sn,hsn⟩:∃ sn,(L.getD i []).length=sn:=⟨_,rfl⟩;rw [hsn] at q1 a;obtain ⟨⟨k,sp,ic,fr,te⟩,hs⟩:∃ s,(L.getD i []).getD m sg0=s:=⟨_,rfl⟩;rw [hs] at ck ⊢;have k0:w.cell? ⟨gb,gf+m*5,none⟩=some (.int .u64 k):=ck.c0;have k1:w.cell? ⟨gb,gf+m*5+1,none⟩=some (.float .f64 sp):=ck.c1;have k2:w.cell? ⟨gb,gf+m*5+2,none⟩=some (.float .f64 ic):=ck.c2;have k3:w.cell? ⟨gb,gf+m*5+3,none⟩=some (.int .i64 fr):=ck.c3;have k4:w.cell? ⟨gb,gf+m*5+4,none⟩=some (.int .i64 te):=ck.c4;have il:i<ln:=by omega
   have il':(i:Int)<(ln:Int):=by omega
   have ml:m<sn:=by omega
   have ml':(m:Int)<(sn:Int):=by omega
   subst hm;clear e z hlc hi ck hgc hs hsn q4 e2 b a;go_enter func208,ntmps208;go_wp2_with fail;refine Calls.mono HA.out ?_;rintro e w2 ⟨rfl,rfl⟩;clear HA;go_wp2_with fail;exact bodyPost_ret (v:=.agg #[.int .u64 k,.float .f64 sp,.float .f64 ic,.int .i64 fr,.int .i64 te]) (by simp [results,results208,go_sem]) rfl ⟨rfl,(Gw.refl w).alloc _ _⟩
  ·rw [decide_eq_false a] at HA
   have e:segW L lv sl=sg0:=by
    unfold segW;refine if_neg (fun x=>a ⟨x.2.1,?_⟩)
    have y:=x.2.2;unfold sizeV;rw [if_pos ⟨by omega,x.1.2⟩]
    unfold rowN;rw [if_neg (by have:=x.1.1;omega)]
    exact y
   rw [e];show Calls _ _ _ _ fun e w'=>e=.returned (.agg #[.int .u64 0,.float .f64 0,.float .f64 0,.int .i64 0,.int .i64 0])/\Gw w w'
   clear e z a;go_enter func208,ntmps208;go_wp2_with fail;refine Calls.mono HA.out ?_;rintro e w2 ⟨rfl,rfl⟩;clear HA;go_wp2_with fail;exact bodyPost_ret (v:=.agg #[.int .u64 0,.float .f64 0,.float .f64 0,.int .i64 0,.int .i64 0]) (by simp [results,results208,go_sem]) rfl ⟨rfl,(Gw.refl w).alloc _ _⟩
theorem pl_key {w:World} {p:Nat} {S:Nat->Prop} {eps:Int} {f:Nat->Int} {n:Nat} {L:List (List Sg)} (h:HPile w p S eps f n L) (lv sl:Int) (l0:-9223372036854775808<=lv) (l1:lv<9223372036854775808) (s0:-9223372036854775808<=sl) (s1:sl<9223372036854775808) :
  Calls prog 207 #[.pointer (some ⟨p,0,none⟩),.int .i64 lv,.int .i64 sl] w fun e w'=>e=.returned (.int .u64 (keyV f n L lv sl))/\Gw w w':=by
 have HA:Hid _:=pl_has h 0 sl (by omega) (by omega)
 have SE:Hid _:=pl_seg h lv sl l0 l1 s0 s1;obtain ⟨ko,kc,lo,lc,h1,hk,hv⟩:=h.opened;obtain ⟨c0,c1,c2⟩:=pl_cells h1;have pl:p<w.heap.size:=(Array.getElem?_eq_some_iff.1 h1).1;have hn:=h.n1;have z0:sizeV n L 0=n:=by unfold sizeV;rw [if_pos ⟨Int.le_refl _,by omega⟩];rfl
 rw [z0] at HA;clear h h1 hv z0;by_cases c:lv=0/\0<=sl/\sl<(n:Int)
 ·obtain ⟨z,a⟩:=c
  rw [decide_eq_true a] at HA;obtain ⟨m,hm⟩:∃ m:Nat,sl=(m:Int):=⟨sl.toNat,by omega⟩
  have e:keyV f n L lv sl=f m:=by
   unfold keyV;rw [z,if_pos ⟨⟨Int.le_refl _,by omega⟩,a⟩,show sl.toNat=m by omega]
   rfl
  rw [e];have t0:(lv == 0)=true:=by simpa using z
  obtain ⟨kb,kf,rfl,hkb,hkc⟩:=hk.cells (by omega)
  have ck:=hkc m (by omega)
  generalize f m=y at ck ⊢;have ml:m<n:=by omega
  have ml':(m:Int)<(n:Int):=by omega
  subst hm;clear e z a hkc hk SE;go_enter func207,ntmps207;go_wp2_with fail;refine Calls.mono HA.out ?_;rintro e w2 ⟨rfl,hw⟩;have hw':w=w2:=hw.symm;subst hw';clear hw HA;go_wp2_with fail;go_ret;exact ⟨rfl,Gw.refl w⟩
 ·have e:keyV f n L lv sl=(segW L lv sl).k:=by
   unfold keyV segW;by_cases z:lv=0
   ·subst z
    rw [if_neg (fun x=>c ⟨rfl,x.2⟩),if_neg (fun x=>by have:=x.1.1;omega)]
    rfl
   ·by_cases x:(0<=lv/\lv<=(L.length:Int))/\0<=sl/\sl<(rowN n L lv.toNat:Int)
    ·rw [if_pos x]
     obtain ⟨i,hi⟩:∃ i:Nat,lv=(i:Int)+1:=⟨(lv-1).toNat,by omega⟩
     have e1:lv.toNat=i+1:=by omega
     rw [e1] at x ⊢;rw [if_pos ⟨⟨by omega,x.1.2⟩,x.2⟩]
     rfl
    ·rw [if_neg x]
     rw [if_neg (fun y=>x ⟨⟨by omega,y.1.2⟩,y.2.1,by
      unfold rowN;rw [if_neg (by have:=y.1.1;omega)]
      exact y.2.2⟩)]
     rfl
  rw [e];obtain ⟨⟨k,sp,ic,fr,te⟩,hs⟩:∃ s,segW L lv sl=s:=⟨_,rfl⟩;rw [hs] at SE ⊢;clear e hs hk;show Calls _ _ _ _ fun e w'=>e=.returned (.int .u64 k)/\Gw w w'
  have fk:∀ W:World,(Instr.field 170 (.agg #[.int .u64 k,.float .f64 sp,.float .f64 ic,.int .i64 fr,.int .i64 te]) 0).run prog W=.ok (.int .u64 k) W:=fun _=>by kernel_rfl
  by_cases z:lv=0
  ·have t0:(lv == 0)=true:=by simpa using z
   rw [decide_eq_false (fun x=>c ⟨z,x⟩)] at HA
   clear z c;go_enter func207,ntmps207;go_wp2_with fail;refine Calls.mono HA.out ?_;rintro e w2 ⟨rfl,hw⟩;have hw':w=w2:=hw.symm;subst hw';clear hw HA;go_wp2_with fail;refine Calls.mono SE.out ?_;rintro e w3 ⟨rfl,g3⟩;have G3:Aside _:=g3;clear g3 SE;go_wp2_with fail;go_ret;exact ⟨rfl,G3.out⟩
  ·have t0:(lv == 0)=false:=by simpa using z
   clear z c HA;go_enter func207,ntmps207;go_wp2_with fail;refine Calls.mono SE.out ?_;rintro e w3 ⟨rfl,g3⟩;have G3:Aside _:=g3;clear g3 SE;go_wp2_with fail;go_ret;exact ⟨rfl,G3.out⟩
end Go.Proofs.YtemijdhemdhclaaGreat
