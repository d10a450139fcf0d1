/- The document's Of of layer 7, over what its Of of layer 5 tells. -/
import Derived.Test.YtklkpldicbkjeaaGreatVMNear
set_option linter.unusedVariables false
set_option maxHeartbeats 8000000
set_option maxRecDepth 10000
open Go.Proofs.Tryz
namespace Go.Proofs.YtklkpldicbkjeaaGreat
open Go.RowKit
def l6:Prop:=∀ (eps:Int) (ao:Option Addr) (n cp:Nat) (f:Nat->Int),-9223372036854775808<=eps->eps<9223372036854775808->n<=2000000->∀ w:World,KS w ao n f ->
 Calls prog 107 #[.slice ao n cp,.int .i64 eps] w fun ex w'=>(∃ a b c err:Int,ex=.returned (.tuple #[.agg #[.int .u64 a,.int .u64 b,.int .i64 c],.int .i64 err])/\dP eps f n a b c err/\(0<=a/\a<18446744073709551616)/\(0<=b/\b<18446744073709551616)/\(-9223372036854775808<=c/\c<9223372036854775808))/\Gw w w'
def fF (eps fr:Int) (f:Nat->Int) (n:Nat) (k:Int) (s ic:Nat) (F T er:Int):Prop :=
 (∃ a b c,dP eps f n a b c er/\er≠0/\k=0/\s=0/\ic=0/\F=0/\T=0) \/
 (∃ a b c,dP eps f n a b c 0/\¬ (0<=fr/\fr+n<=4294967296)/\k=0/\s=0/\ic=0/\F=0/\T=0/\er=1) \/
 (∃ a b c,dP eps f n a b c 0/\(0<=fr/\fr+n<=4294967296)/\(a<18446744073709551616/\b<18446744073709551616)/\Nr (a.toNat*Un) b.toNat s/\k=f 0/\ic=floatOfInt .f64 (fr+c)/\F=fr/\T=fr+n/\er=0)
def Sb (w:World) (b:Nat) (k:Int) (s ic:Nat) (F T:Int):Prop:=w.heap[b]?=some (.cells #[.int .u64 k,.float .f64 s,.float .f64 ic,.int .i64 F,.int .i64 T] 129 (0,0))
theorem Sb.lt {w:World} {b:Nat} {k:Int} {s ic:Nat} {F T:Int} (h:Sb w b k s ic F T):b<w.heap.size:=(Array.getElem?_eq_some_iff.1 h).1
theorem Sb.gw {w w':World} {b:Nat} {k:Int} {s ic:Nat} {F T:Int} (h:Sb w b k s ic F T) (g:Gw w w'):Sb w' b k s ic F T:=(g.below.block b h.lt).trans h
theorem Sb.cells {w:World} {b:Nat} {k:Int} {s ic:Nat} {F T:Int} (h:Sb w b k s ic F T):w.cell? ⟨b,0,none⟩=some (.int .u64 k)/\w.cell? ⟨b,1,none⟩=some (.float .f64 s)/\w.cell? ⟨b,2,none⟩=some (.float .f64 ic)/\w.cell? ⟨b,3,none⟩=some (.int .i64 F)/\w.cell? ⟨b,4,none⟩=some (.int .i64 T):=by
 unfold Sb at h;simp [World.cell?,h]
theorem Sb.fz {w:World} {b:Nat} {k:Int} {s ic:Nat} {F T:Int} (h:Sb w b k s ic F T) (o:Nat):w.frozen? ⟨b,o,none⟩=false:=by unfold Sb at h;simp [World.frozen?,h]
theorem fZ {P:Program} {w:World} {a:Addr} {m:Mode} (k:FloatKind) (n:Nat):(store a (.float k n) m).run P w=stored P w a (.float k n) m:=run_store P w a _ m rfl
attribute [local go_sem] fZ
theorem Y9 (b:Nat):b<=V b:=by
 induction b with
 | zero=>exact Nat.zero_le _
 | succ b ih=>have:=yA b;omega
theorem Y' (x y:Nat) (hy:0<y):∃ b,Nr x y b:=by
 obtain ⟨b,h1,h2⟩:∃ b,V b*y<=x/\x<V (b+1)*y:=by
  have:∀ t,x<V t*y->∃ b,V b*y<=x/\x<V (b+1)*y:=by
   intro t;induction t with
   | zero=>intro h;rw [oK] at h;omega
   | succ t ih =>
    intro h;by_cases k:x<V t*y
    ·exact ih k
    ·exact ⟨t,by omega,h⟩
  refine this (x+1) ?_;have a:=Y9 (x+1);have b:=Nat.mul_le_mul a hy;rw [Nat.mul_one] at b;omega
 have s1:V (b+1)*y<V (b+1+1)*y:=Nat.mul_lt_mul_of_pos_right (yA (b+1)) hy;have lo:(V (b-1)+V b)*y<=2*x/\((V (b-1)+V b)*y=2*x->b%2=0):=by
  by_cases z:b=0
  ·subst z;rw [oK] at *;simp
  ·have:V (b-1)*y<V b*y:=Nat.mul_lt_mul_of_pos_right (sN (by omega)) hy
   rw [Nat.add_mul];exact ⟨by omega,fun e=>by omega⟩
 by_cases k:2*x<(V b+V (b+1))*y\/(2*x=(V b+V (b+1))*y/\b%2=0)
 ·exact ⟨b,lo.1,by omega,lo.2,fun e=>by omega⟩
 ·refine ⟨b+1,?_,?_,?_,?_⟩
  ·show (V b+V (b+1))*y<=2*x
   omega
  ·rw [Nat.add_mul];omega
  ·intro e
   have e':(V b+V (b+1))*y=2*x:=e;omega
  ·intro e;rw [Nat.add_mul] at e;omega
theorem Za {a b:Nat} (a1:a<18446744073709551616) (b1:b<18446744073709551616) (b0:0<b):∃ s,Nr (a*Un) b s/\∀ w,Calls prog 108 #[.int .u64 a,.int .u64 b] w fun e w'=>e=.returned (.tuple #[.float .f64 s,.int .i64 0])/\w'=w:=by
 by_cases z:a=0
 ·subst z
  exact ⟨0,by rw [Nat.zero_mul];exact Nr.zero b b0,fun w=>YR b b0 w⟩
 ·obtain ⟨s,hs⟩:=Y' (a*Un) b b0
  exact ⟨s,hs,fun w=>YY a b s a1 b1 (by omega) b0 hs w⟩
theorem Zb (O5:l6) (eps fr:Int) (ao:Option Addr) (n cp:Nat) (f:Nat->Int) (p0:-9223372036854775808<=eps) (p1:eps<9223372036854775808) (q0:-9223372036854775808<=fr) (q1:fr<9223372036854775808) (hn:n<=2000000) (w:World) (K:KS w ao n f) :
  Calls prog 87 #[.slice ao n cp,.int .i64 eps,.int .i64 fr] w fun ex w'=>(∃ (k:Int) (s ic:Nat) (F T er:Int),ex=.returned (.tuple #[eF k s ic F T,.int .i64 er])/\fF eps fr f n k s ic F T er)/\Gw w w':=by
 have G0:ag (Gw w (w.alloc (.cells #[.int .u64 0,.float .f64 0,.float .f64 0,.int .i64 0,.int .i64 0] 129))):=(Gw.refl w).alloc _ _;have Z0:ag (Sb (w.alloc (.cells #[.int .u64 0,.float .f64 0,.float .f64 0,.int .i64 0,.int .i64 0] 129)) w.heap.size 0 0 0 0 0):=heap_alloc_new w _;have O:ag _:=fun W (g:Gw w W)=>O5 eps ao n cp f p0 p1 hn W (K.gw g)
 have K':ag _:=K;clear K O5;go_enter func87,ntmps87;go_wp2_with fail;refine (O.o _ G0.o).mono ?_;rintro ex w1 ⟨⟨a,b,c,er,rfl,R0,ab,bb,cb⟩,g1⟩;have G:ag _:=G0.o.trans g1;have Z:ag (Sb w1 w.heap.size 0 0 0 0 0):=Z0.o.gw g1;clear G0 Z0 g1 O;by_cases h:er=0
 ·subst h
  obtain ⟨z0,z1,z2,z3,z4⟩:=Z.o.cells;have zl:=Z.o.lt;have y0:=Z.o.fz 0;have y1:=Z.o.fz 1;have y2:=Z.o.fz 2;have y3:=Z.o.fz 3;have y4:=Z.o.fz 4;by_cases h1:fr<0
  ·have t2:decide (fr<0)=true:=by simpa using h1
   have R:ag (fF eps fr f n 0 0 0 0 0 1):=.inr (.inl ⟨a,b,c,R0,fun q=>by omega,rfl,rfl,rfl,rfl,rfl,rfl⟩)
   clear R0 h1;go_wp2_with fail;refine bodyPost_ret (v:=.tuple #[eF 0 0 0 0 0,.int .i64 1]) (by simp [results,results87,go_sem,zl,z0,z1,z2,z3,z4]) rfl ⟨⟨0,0,0,0,0,1,rfl,R.o⟩,?_⟩
   refine Gw.alloc (Gw.setCell (Gw.setCell (Gw.setCell (Gw.setCell (Gw.setCell G.o ?_ _) ?_ _) ?_ _) ?_ _) ?_ _) _ _<;>exact Nat.le_refl _
  ·have t2:decide (fr<0)=false:=by simpa using h1
   have wz:IntKind.i64.wrap (4294967296-(n:Int))=4294967296-(n:Int):=by rw [IntKind.wrap_i64];omega
   by_cases h2:4294967296-(n:Int)<fr
   ·have t3:decide (4294967296-(n:Int)<fr)=true:=by simpa using h2
    have R:ag (fF eps fr f n 0 0 0 0 0 1):=.inr (.inl ⟨a,b,c,R0,fun q=>by omega,rfl,rfl,rfl,rfl,rfl,rfl⟩)
    clear R0 h1 h2;go_wp2_with fail;refine bodyPost_ret (v:=.tuple #[eF 0 0 0 0 0,.int .i64 1]) (by simp [results,results87,go_sem,zl,z0,z1,z2,z3,z4]) rfl ⟨⟨0,0,0,0,0,1,rfl,R.o⟩,?_⟩
    refine Gw.alloc (Gw.setCell (Gw.setCell (Gw.setCell (Gw.setCell (Gw.setCell G.o ?_ _) ?_ _) ?_ _) ?_ _) ?_ _) _ _<;>exact Nat.le_refl _
   ·have t3:decide (4294967296-(n:Int)<fr)=false:=by simpa using h2
    obtain ⟨A,rfl⟩:∃ A:Nat,a=A:=⟨a.toNat,by omega⟩
    obtain ⟨B,rfl⟩:∃ B:Nat,b=B:=⟨b.toNat,by omega⟩
    have T:Told eps f n A B c:=by
     rcases R0.cases with ⟨q,_⟩ | ⟨_,q⟩
     ·exact absurd rfl q
     ·exact q
    have B1:=T.low.b1;have n0:=T.n0;have cc:=(T.stays (by omega)).2
    have ee:=T.e1;have eh:=T.e2;clear T;obtain ⟨s,hs,NE⟩:=Za (a:=A) (b:=B) (by omega) (by omega) (by omega)
    have CA:ag _:=NE;obtain ⟨bk,off,rfl,hb,hc⟩:=(K'.o.gw G.o).cells n0;have c0:w1.cell? ⟨bk,off,none⟩=some (.int .u64 (f 0)):=hc 0 n0;obtain ⟨f0,hf⟩:∃ f0,f 0=f0:=⟨_,rfl⟩;rw [hf] at c0;have wy:IntKind.i64.wrap (fr+c)=fr+c:=by rw [IntKind.wrap_i64];omega
    have wx:IntKind.i64.wrap (fr+(n:Int))=fr+(n:Int):=by rw [IntKind.wrap_i64];omega
    have R:ag (fF eps fr f n f0 s (floatOfInt .f64 (fr+c)) fr (fr+n) 0):=.inr (.inr ⟨A,B,c,R0,⟨by omega,by omega⟩,⟨by omega,by omega⟩,by rw [Int.toNat_natCast,Int.toNat_natCast];exact hs,hf.symm,rfl,rfl,rfl,rfl⟩)
    have bz:bk≠w.heap.size:=by
     intro q;obtain ⟨uQ,sU,e,cY,-⟩:=K'.o.cells n0;cases e;omega
    clear R0 hs hf hc NE h1 h2;go_wp2_with fail;refine (CA.o _).mono ?_;rintro ex w2 ⟨rfl,rfl⟩;go_wp2_with fail;go_region
    all_goals go_wp2_with fail
    all_goals refine bodyPost_ret (v:=.tuple #[eF f0 s (floatOfInt .f64 (fr+c)) fr (fr+n),.int .i64 0]) (by simp [results,results87,go_sem,zl,z0,z1,z2,z3,z4]) rfl ⟨⟨f0,s,floatOfInt .f64 (fr+c),fr,fr+n,0,rfl,R.o⟩,?_⟩
    all_goals (repeat (first | exact G.o | refine Gw.drew ?_ | refine Gw.drewN ?_ _ | refine Gw.alloc ?_ _ _ | refine Gw.setCell ?_ (Nat.le_refl _) _))
 ·have t1:(er != 0)=true:=by simpa using h
  have R:ag (fF eps fr f n 0 0 0 0 0 er):=.inl ⟨a,b,c,R0,h,rfl,rfl,rfl,rfl,rfl⟩;clear R0 h;obtain ⟨z0,z1,z2,z3,z4⟩:=Z.o.cells;have zl:=Z.o.lt;have y0:=Z.o.fz 0;have y1:=Z.o.fz 1;have y2:=Z.o.fz 2;have y3:=Z.o.fz 3;have y4:=Z.o.fz 4;go_wp2_with fail;refine bodyPost_ret (v:=.tuple #[eF 0 0 0 0 0,.int .i64 er]) (by simp [results,results87,go_sem,zl,z0,z1,z2,z3,z4]) rfl ⟨⟨0,0,0,0,0,er,rfl,R.o⟩,?_⟩
  refine Gw.alloc (Gw.setCell (Gw.setCell (Gw.setCell (Gw.setCell (Gw.setCell G.o ?_ _) ?_ _) ?_ _) ?_ _) ?_ _) _ _<;>exact Nat.le_refl _
end Go.Proofs.YtklkpldicbkjeaaGreat
namespace Go.Proofs.YtklkpldicbkjeaaGreat
theorem dP.err {eps:Int} {f:Nat->Int} {n:Nat} {a b c a' b' c' e e':Int} (h:dP eps f n a b c e) (h':dP eps f n a' b' c' e'):e=e':=(h.one h').2
theorem fF.one {eps fr:Int} {f:Nat->Int} {n:Nat} {k k':Int} {s s' ic Ld:Nat} {F F' T T' er Le:Int} (h:fF eps fr f n k s ic F T er) (h':fF eps fr f n k' s' Ld F' T' Le):(k=k'/\s=s'/\ic=Ld/\F=F'/\T=T')/\er=Le:=by
 rcases h with ⟨a,b,c,o,ne,rfl,rfl,rfl,rfl,rfl⟩ | ⟨a,b,c,o,nb,rfl,rfl,rfl,rfl,rfl,rfl⟩ | ⟨a,b,c,o,nb,ab,hs,rfl,rfl,rfl,rfl,rfl⟩
 ·rcases h' with ⟨a',b',c',o',ne',rfl,rfl,rfl,rfl,rfl⟩ | ⟨a',b',c',o',iS,_⟩ | ⟨a',b',c',o',iS,_⟩
  ·exact ⟨⟨rfl,rfl,rfl,rfl,rfl⟩,o.err o'⟩
  ·exact absurd (o.err o') ne
  ·exact absurd (o.err o') ne
 ·rcases h' with ⟨a',b',c',o',ne',_⟩ | ⟨a',b',c',o',iS,rfl,rfl,rfl,rfl,rfl,rfl⟩ | ⟨a',b',c',o',iS,_⟩
  ·exact absurd (o'.err o) ne'
  ·exact ⟨⟨rfl,rfl,rfl,rfl,rfl⟩,rfl⟩
  ·exact absurd iS nb
 ·rcases h' with ⟨a',b',c',o',ne',_⟩ | ⟨a',b',c',o',iS,_⟩ | ⟨a',b',c',o',iS,sV,dT,rfl,rfl,rfl,rfl,rfl⟩
  ·exact absurd (o'.err o) ne'
  ·exact absurd nb iS
  ·obtain ⟨⟨rfl,rfl,rfl⟩,-⟩:=o.one o'
   have b0:0<b.toNat:=by
    rcases o.cases with ⟨q,_⟩ | ⟨_,q⟩
    ·exact absurd rfl q
    ·have:=q.low.b1;omega
   exact ⟨⟨rfl,hs.uniq dT b0,rfl,rfl,rfl⟩,rfl⟩
theorem Zc (k:Int) (sl ic:Nat) (fr to q:Int) (h:q<=k):cP k sl ic fr to q=cP k sl ic fr to k:=by
 unfold cP;rw [show (q-k).toNat=(k-k).toNat by omega]
def ax (f:Nat->Int) (q:Int):Nat->Nat
 | 0=>0
 | j+1=>ax f q j+(if f j<q then 1 else 0)
theorem nI (f:Nat->Int) (q:Int) (n:Nat):ax f q n<=n:=by
 induction n with
 | zero=>exact Nat.le_refl _
 | succ n ih=>show ax f q n+(if f n<q then 1 else 0)<=n+1;split<;>omega
theorem oN {f:Nat->Int} {n:Nat} (u:Up f n) (q:Int):∀ j,j<=n->(∀ i,i<ax f q j->f i<q)/\(∀ i,ax f q j<=i->i<j->q<=f i):=by
 intro j;induction j with
 | zero=>intro _;exact ⟨fun i hi=>by simp [ax] at hi,fun i _ hi=>by omega⟩
 | succ j ih =>
  intro hj;obtain ⟨a,b⟩:=ih (by omega)
  have le:=nI f q j;have e:ax f q (j+1)=ax f q j+(if f j<q then 1 else 0):=rfl
  by_cases h:f j<q
  ·rw [if_pos h] at e
   have full:ax f q j=j:=by
    by_cases c:ax f q j=j
    ·exact c
    ·have x:=b (ax f q j) (Nat.le_refl _) (by omega)
     have y:=u.le (show ax f q j<=j by omega) (by omega)
     omega
   rw [e,full];refine ⟨fun i hi=>?_,fun i h1 h2=>by omega⟩
   by_cases c:i=j
   ·subst c;exact h
   ·exact a i (by omega)
  ·rw [if_neg h] at e
   rw [e,Nat.add_zero];refine ⟨a,fun i h1 h2=>?_⟩
   by_cases c:i=j
   ·subst c;omega
   ·exact b i h1 (by omega)
theorem Zd {k:Int} {sl ic:Nat} {fr to:Int} {n:Nat} {f:Nat->Int} {N:Int} (h:bU sl ic fr to=0) (hn:(n:Int)=to-fr) (hk:f 0=k) (u:Up f n) (bd:∀ i,i<n->0<=f i/\f i<18446744073709551616) (N0:0<=N)
  (off:∀ i,i<n->-N<=cd k sl ic fr to f i/\cd k sl ic fr to f i<=N) (q:Int) (q1:q<18446744073709551616) (first:k<=q):-(N+1)<=cP k sl ic fr to q-(fr+ax f q n)/\cP k sl ic fr to q-(fr+ax f q n)<=N+1:=by
 obtain ⟨a,b,c,d,e⟩:=lY.1 h;have n0:0<n:=by omega
 have k0:0<=k:=hk▸(bd 0 n0).1;obtain ⟨c1,c2⟩:=oN u q n (Nat.le_refl _);have:=YB (f:=f) (n:=n) (g:=fun x=>cP k sl ic fr to (min x 18446744073709551615)) (lo:=fr) (N:=N) n0 (fun x y _ hxy=>YJ h k0 (by omega) (by omega)) (fun i hi=>u.le (Nat.zero_le i) hi)
  (fun x _=>by have:=yN (q:=min x 18446744073709551615) h k0 (by omega);omega) N0 (fun i hi=>by
   have o:=off i hi;have bi:=bd i hi;unfold cd at o;rw [show min (f i) 18446744073709551615=f i by omega]
   omega) q (ax f q n) (nI f q n) c1 c2 (by omega)
 simp only [show min q 18446744073709551615=q by omega] at this
 omega
open Go.RowKit
structure uR (k:Int) (sl ic:Nat) (fr to:Int):Prop where
 k0:0<=k
 k1:k<18446744073709551616
 s1:sl<18446744073709551616
 i1:ic<18446744073709551616
 f0:-9223372036854775808<=fr
 f1:fr<9223372036854775808
 t0:-9223372036854775808<=to
 t1:to<9223372036854775808
def Ze (ex:Ending) (eps fr:Int) (f:Nat->Int) (n:Nat):Prop:=∃ (k:Int) (s ic:Nat) (F T er:Int),ex=.returned (.tuple #[eF k s ic F T,.int .i64 er])/\fF eps fr f n k s ic F T er
def Lf (ex:Ending) (k:Int) (sl ic:Nat) (fr to:Int) (n:Nat) (f:Nat->Int):Prop:=∃ N er:Int,ex=.returned (.tuple #[.int .i64 N,.int .i64 er])/\qC k sl ic fr to n f N er
structure gh:Prop where
 check:∀ (k:Int) (sl ic:Nat) (fr to:Int),uR k sl ic fr to->∀ w:World,Calls prog 152 #[eF k sl ic fr to] w fun e w'=>e=.returned (.int .i64 (bU sl ic fr to))/\Gw w w'
 guess:∀ (k:Int) (sl ic:Nat) (fr to q:Int),uR k sl ic fr to->0<=q->q<18446744073709551616->∀ w:World,Calls prog 131 #[eF k sl ic fr to,.int .u64 q] w fun e w'=>e=.returned (.int .i64 (cP k sl ic fr to q))/\Gw w w'
 off:∀ (k:Int) (sl ic:Nat) (fr to:Int) (ao:Option Addr) (n cp:Nat) (f:Nat->Int),uR k sl ic fr to->n*8<=140737488351232->n<=cp->∀ w:World,KS w ao n f->Calls prog 163 #[eF k sl ic fr to,.slice ao n cp] w fun e w'=>Lf e k sl ic fr to n f/\Gw w w'
 of:∀ (eps fr:Int) (ao:Option Addr) (n cp:Nat) (f:Nat->Int),-9223372036854775808<=eps->eps<9223372036854775808->-9223372036854775808<=fr->fr<9223372036854775808->n<=2000000->n<=cp->∀ w:World,KS w ao n f->Calls prog 101 #[.slice ao n cp,.int .i64 eps,.int .i64 fr] w fun e w'=>Ze e eps fr f n/\Gw w w'
theorem Zf (t:Int):floatOfInt .f64 t<18446744073709551616:=by
 obtain ⟨b,_,e⟩:=Ks t;rw [e];have:min b 9218868437227405312<=9218868437227405312:=Nat.min_le_right _ _;generalize min b 9218868437227405312=m at this;unfold Ieee.Format.word;split
 ·show 9223372036854775808+m<_;omega
 ·omega
theorem fF.ok {eps fr:Int} {f:Nat->Int} {n:Nat} {k:Int} {s ic:Nat} {F T er:Int} (h:fF eps fr f n k s ic F T er) (hn:n<=2000000) (bd:∀ i,i<n->0<=f i/\f i<18446744073709551616):uR k s ic F T:=by
 rcases h with ⟨a,b,c,o,ne,rfl,rfl,rfl,rfl,rfl⟩ | ⟨a,b,c,o,nb,rfl,rfl,rfl,rfl,rfl,rfl⟩ | ⟨a,b,c,o,nb,ab,hs,rfl,rfl,rfl,rfl,rfl⟩
 ·exact ⟨by decide,by decide,by decide,by decide,by decide,by decide,by decide,by decide⟩
 ·exact ⟨by decide,by decide,by decide,by decide,by decide,by decide,by decide,by decide⟩
 ·obtain ⟨er,_⟩:=K0 o (by omega) bd ab.1 ab.2 nb.1 nb.2 hs
  obtain ⟨_,_,_,sl,_⟩:=lY.1 er;have n0:0<n:=by
   rcases o.cases with ⟨q,_⟩ | ⟨_,q⟩
   ·exact absurd rfl q
   ·exact q.n0
  exact ⟨(bd 0 n0).1,(bd 0 n0).2,by omega,Zf _,by omega,by omega,by omega,by omega⟩
end Go.Proofs.YtklkpldicbkjeaaGreat
