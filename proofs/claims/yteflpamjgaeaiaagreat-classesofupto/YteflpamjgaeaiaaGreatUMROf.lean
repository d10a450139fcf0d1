/- The document's Of of layer 7, over what its Of of layer 5 tells. -/
import Derived.Test.YteflpamjgaeaiaaGreatUMNear
set_option linter.unusedVariables false
set_option maxHeartbeats 8000000
set_option maxRecDepth 10000
open Go.Proofs.Tryz
namespace Go.Proofs.YteflpamjgaeaiaaGreat
open Go.RowKit
def Of5C:Prop:=∀ (eps:Int) (ao:Option Addr) (n cp:Nat) (f:Nat->Int),-9223372036854775808<=eps->eps<9223372036854775808->n<=2000000->∀ w:World,KS w ao n f ->
 Calls prog 159 #[.slice ao n cp,.int .i64 eps] w fun ex w'=>(∃ a b c err:Int,ex=.returned (.tuple #[.agg #[.int .u64 a,.int .u64 b,.int .i64 c],.int .i64 err])/\OfR eps f n a b c err/\(0<=a/\a<18446744073709551616)/\(0<=b/\b<18446744073709551616)/\(-9223372036854775808<=c/\c<9223372036854775808))/\Gw w w'
def SegR (eps fr:Int) (f:Nat->Int) (n:Nat) (k:Int) (s ic:Nat) (F T er:Int):Prop :=
 (∃ a b c,OfR eps f n a b c er/\er≠0/\k=0/\s=0/\ic=0/\F=0/\T=0) \/
 (∃ a b c,OfR eps f n a b c 0/\¬ (0<=fr/\fr+n<=4294967296)/\k=0/\s=0/\ic=0/\F=0/\T=0/\er=1) \/
 (∃ a b c,OfR eps f n a b c 0/\(0<=fr/\fr+n<=4294967296)/\(a<18446744073709551616/\b<18446744073709551616)/\Nr (a.toNat*Un) b.toNat s/\k=f 0/\ic=floatOfInt .f64 (fr+c)/\F=fr/\T=fr+n/\er=0)
def Sb (w:World) (b:Nat) (k:Int) (s ic:Nat) (F T:Int):Prop:=w.heap[b]?=some (.cells #[.int .u64 k,.float .f64 s,.float .f64 ic,.int .i64 F,.int .i64 T] 177 (0,0))
theorem Sb.lt {w:World} {b:Nat} {k:Int} {s ic:Nat} {F T:Int} (h:Sb w b k s ic F T):b<w.heap.size:=(Array.getElem?_eq_some_iff.1 h).1
theorem Sb.gw {w w':World} {b:Nat} {k:Int} {s ic:Nat} {F T:Int} (h:Sb w b k s ic F T) (g:Gw w w'):Sb w' b k s ic F T:=(g.below.block b h.lt).trans h
theorem Sb.cells {w:World} {b:Nat} {k:Int} {s ic:Nat} {F T:Int} (h:Sb w b k s ic F T):w.cell? ⟨b,0,none⟩=some (.int .u64 k)/\w.cell? ⟨b,1,none⟩=some (.float .f64 s)/\w.cell? ⟨b,2,none⟩=some (.float .f64 ic)/\w.cell? ⟨b,3,none⟩=some (.int .i64 F)/\w.cell? ⟨b,4,none⟩=some (.int .i64 T):=by
 unfold Sb at h;simp [World.cell?,h]
theorem Sb.fz {w:World} {b:Nat} {k:Int} {s ic:Nat} {F T:Int} (h:Sb w b k s ic F T) (o:Nat):w.frozen? ⟨b,o,none⟩=false:=by unfold Sb at h;simp [World.frozen?,h]
theorem run_store_float {P:Program} {w:World} {a:Addr} {m:Mode} (k:FloatKind) (n:Nat):(store a (.float k n) m).run P w=stored P w a (.float k n) m:=run_store P w a _ m rfl
attribute [local go_sem] run_store_float
theorem V_ge (b:Nat):b<=V b:=by
 induction b with
 | zero=>exact Nat.zero_le _
 | succ b ih=>have:=V_succ b;omega
theorem nr_ex (x y:Nat) (hy:0<y):∃ b,Nr x y b:=by
 obtain ⟨b,h1,h2⟩:∃ b,V b*y<=x/\x<V (b+1)*y:=by
  have:∀ t,x<V t*y->∃ b,V b*y<=x/\x<V (b+1)*y:=by
   intro t;induction t with
   | zero=>intro h;rw [V_zero] at h;omega
   | succ t ih =>
    intro h;by_cases k:x<V t*y
    ·exact ih k
    ·exact ⟨t,by omega,h⟩
  refine this (x+1) ?_;have a:=V_ge (x+1);have b:=Nat.mul_le_mul a hy;rw [Nat.mul_one] at b;omega
 have s1:V (b+1)*y<V (b+1+1)*y:=Nat.mul_lt_mul_of_pos_right (V_succ (b+1)) hy;have lo:(V (b-1)+V b)*y<=2*x/\((V (b-1)+V b)*y=2*x->b%2=0):=by
  by_cases z:b=0
  ·subst z;rw [V_zero] at *;simp
  ·have:V (b-1)*y<V b*y:=Nat.mul_lt_mul_of_pos_right (V_lt (by omega)) hy
   rw [Nat.add_mul];exact ⟨by omega,fun e=>by omega⟩
 by_cases k:2*x<(V b+V (b+1))*y\/(2*x=(V b+V (b+1))*y/\b%2=0)
 ·exact ⟨b,lo.1,by omega,lo.2,fun e=>by omega⟩
 ·refine ⟨b+1,?_,?_,?_,?_⟩
  ·show (V b+V (b+1))*y<=2*x
   omega
  ·rw [Nat.add_mul];omega
  ·intro e
   have e':(V b+V (b+1))*y=2*x:=e;omega
  ·intro e;rw [Nat.add_mul] at e;omega
theorem or_near {a b:Nat} (a1:a<18446744073709551616) (b1:b<18446744073709551616) (b0:0<b):∃ s,Nr (a*Un) b s/\∀ w,Calls prog 160 #[.int .u64 a,.int .u64 b] w fun e w'=>e=.returned (.tuple #[.float .f64 s,.int .i64 0])/\w'=w:=by
 by_cases z:a=0
 ·subst z
  exact ⟨0,by rw [Nat.zero_mul];exact Nr.zero b b0,fun w=>rnear_zero_num b b0 w⟩
 ·obtain ⟨s,hs⟩:=nr_ex (a*Un) b b0
  exact ⟨s,hs,fun w=>rnear_any a b s a1 b1 (by omega) b0 hs w⟩
theorem rof7_any (O5:Of5C) (eps fr:Int) (ao:Option Addr) (n cp:Nat) (f:Nat->Int) (p0:-9223372036854775808<=eps) (p1:eps<9223372036854775808) (q0:-9223372036854775808<=fr) (q1:fr<9223372036854775808) (hn:n<=2000000) (w:World) (K:KS w ao n f) :
  Calls prog 124 #[.slice ao n cp,.int .i64 eps,.int .i64 fr] w fun ex w'=>(∃ (k:Int) (s ic:Nat) (F T er:Int),ex=.returned (.tuple #[segV k s ic F T,.int .i64 er])/\SegR eps fr f n k s ic F T er)/\Gw w w':=by
 have G0:Aside (Gw w (w.alloc (.cells #[.int .u64 0,.float .f64 0,.float .f64 0,.int .i64 0,.int .i64 0] 177))):=(Gw.refl w).alloc _ _;have Z0:Aside (Sb (w.alloc (.cells #[.int .u64 0,.float .f64 0,.float .f64 0,.int .i64 0,.int .i64 0] 177)) w.heap.size 0 0 0 0 0):=heap_alloc_new w _;have O:Hid _:=fun W (g:Gw w W)=>O5 eps ao n cp f p0 p1 hn W (K.gw g)
 have K':Hid _:=K;clear K O5;go_enter func124,ntmps124;go_wp2_with fail;refine (O.out _ G0.out).mono ?_;rintro ex w1 ⟨⟨a,b,c,er,rfl,R0,ab,bb,cb⟩,g1⟩;have G:Aside _:=G0.out.trans g1;have Z:Aside (Sb w1 w.heap.size 0 0 0 0 0):=Z0.out.gw g1;clear G0 Z0 g1 O;by_cases h:er=0
 ·subst h
  obtain ⟨z0,z1,z2,z3,z4⟩:=Z.out.cells;have zl:=Z.out.lt;have y0:=Z.out.fz 0;have y1:=Z.out.fz 1;have y2:=Z.out.fz 2;have y3:=Z.out.fz 3;have y4:=Z.out.fz 4;by_cases h1:fr<0
  ·have t2:decide (fr<0)=true:=by simpa using h1
   have R:Aside (SegR eps fr f n 0 0 0 0 0 1):=.inr (.inl ⟨a,b,c,R0,fun q=>by omega,rfl,rfl,rfl,rfl,rfl,rfl⟩)
   clear R0 h1;go_wp2_with fail;refine bodyPost_ret (v:=.tuple #[segV 0 0 0 0 0,.int .i64 1]) (by simp [results,results124,go_sem,zl,z0,z1,z2,z3,z4]) rfl ⟨⟨0,0,0,0,0,1,rfl,R.out⟩,?_⟩
   refine Gw.alloc (Gw.setCell (Gw.setCell (Gw.setCell (Gw.setCell (Gw.setCell G.out ?_ _) ?_ _) ?_ _) ?_ _) ?_ _) _ _<;>exact Nat.le_refl _
  ·have t2:decide (fr<0)=false:=by simpa using h1
   have wz:IntKind.i64.wrap (4294967296-(n:Int))=4294967296-(n:Int):=by rw [IntKind.wrap_i64];omega
   by_cases h2:4294967296-(n:Int)<fr
   ·have t3:decide (4294967296-(n:Int)<fr)=true:=by simpa using h2
    have R:Aside (SegR eps fr f n 0 0 0 0 0 1):=.inr (.inl ⟨a,b,c,R0,fun q=>by omega,rfl,rfl,rfl,rfl,rfl,rfl⟩)
    clear R0 h1 h2;go_wp2_with fail;refine bodyPost_ret (v:=.tuple #[segV 0 0 0 0 0,.int .i64 1]) (by simp [results,results124,go_sem,zl,z0,z1,z2,z3,z4]) rfl ⟨⟨0,0,0,0,0,1,rfl,R.out⟩,?_⟩
    refine Gw.alloc (Gw.setCell (Gw.setCell (Gw.setCell (Gw.setCell (Gw.setCell G.out ?_ _) ?_ _) ?_ _) ?_ _) ?_ _) _ _<;>exact Nat.le_refl _
   ·have t3:decide (4294967296-(n:Int)<fr)=false:=by simpa using h2
    obtain ⟨A,rfl⟩:∃ A:Nat,a=A:=⟨a.toNat,by omega⟩
    obtain ⟨B,rfl⟩:∃ B:Nat,b=B:=⟨b.toNat,by omega⟩
    have T:Told eps f n A B c:=by
     rcases R0.cases with ⟨q,_⟩ | ⟨_,q⟩
     ·exact absurd rfl q
     ·exact q
    have B1:=T.low.b1;have n0:=T.n0;have cc:=(T.stays (by omega)).2
    have ee:=T.e1;have eh:=T.e2;clear T;obtain ⟨s,hs,NE⟩:=or_near (a:=A) (b:=B) (by omega) (by omega) (by omega)
    have NE':Hid _:=NE;obtain ⟨bk,off,rfl,hb,hc⟩:=(K'.out.gw G.out).cells n0;have c0:w1.cell? ⟨bk,off,none⟩=some (.int .u64 (f 0)):=hc 0 n0;obtain ⟨f0,hf⟩:∃ f0,f 0=f0:=⟨_,rfl⟩;rw [hf] at c0;have wy:IntKind.i64.wrap (fr+c)=fr+c:=by rw [IntKind.wrap_i64];omega
    have wx:IntKind.i64.wrap (fr+(n:Int))=fr+(n:Int):=by rw [IntKind.wrap_i64];omega
    have R:Aside (SegR eps fr f n f0 s (floatOfInt .f64 (fr+c)) fr (fr+n) 0):=.inr (.inr ⟨A,B,c,R0,⟨by omega,by omega⟩,⟨by omega,by omega⟩,by rw [Int.toNat_natCast,Int.toNat_natCast];exact hs,hf.symm,rfl,rfl,rfl,rfl⟩)
    have bz:bk≠w.heap.size:=by
     intro q;obtain ⟨bk',off',e,hb',-⟩:=K'.out.cells n0;cases e;omega
    clear R0 hs hf hc NE h1 h2;go_wp2_with fail;refine (NE'.out _).mono ?_;rintro ex w2 ⟨rfl,rfl⟩;go_wp2_with fail;go_region
    all_goals go_wp2_with fail
    all_goals refine bodyPost_ret (v:=.tuple #[segV f0 s (floatOfInt .f64 (fr+c)) fr (fr+n),.int .i64 0]) (by simp [results,results124,go_sem,zl,z0,z1,z2,z3,z4]) rfl ⟨⟨f0,s,floatOfInt .f64 (fr+c),fr,fr+n,0,rfl,R.out⟩,?_⟩
    all_goals (repeat (first | exact G.out | refine Gw.drew ?_ | refine Gw.drewN ?_ _ | refine Gw.alloc ?_ _ _ | refine Gw.setCell ?_ (Nat.le_refl _) _))
 ·have t1:(er != 0)=true:=by simpa using h
  have R:Aside (SegR eps fr f n 0 0 0 0 0 er):=.inl ⟨a,b,c,R0,h,rfl,rfl,rfl,rfl,rfl⟩;clear R0 h;obtain ⟨z0,z1,z2,z3,z4⟩:=Z.out.cells;have zl:=Z.out.lt;have y0:=Z.out.fz 0;have y1:=Z.out.fz 1;have y2:=Z.out.fz 2;have y3:=Z.out.fz 3;have y4:=Z.out.fz 4;go_wp2_with fail;refine bodyPost_ret (v:=.tuple #[segV 0 0 0 0 0,.int .i64 er]) (by simp [results,results124,go_sem,zl,z0,z1,z2,z3,z4]) rfl ⟨⟨0,0,0,0,0,er,rfl,R.out⟩,?_⟩
  refine Gw.alloc (Gw.setCell (Gw.setCell (Gw.setCell (Gw.setCell (Gw.setCell G.out ?_ _) ?_ _) ?_ _) ?_ _) ?_ _) _ _<;>exact Nat.le_refl _
end Go.Proofs.YteflpamjgaeaiaaGreat
namespace Go.Proofs.YteflpamjgaeaiaaGreat
theorem OfR.err {eps:Int} {f:Nat->Int} {n:Nat} {a b c a' b' c' e e':Int} (h:OfR eps f n a b c e) (h':OfR eps f n a' b' c' e'):e=e':=(h.one h').2
theorem SegR.one {eps fr:Int} {f:Nat->Int} {n:Nat} {k k':Int} {s s' ic ic':Nat} {F F' T T' er er':Int} (h:SegR eps fr f n k s ic F T er) (h':SegR eps fr f n k' s' ic' F' T' er'):(k=k'/\s=s'/\ic=ic'/\F=F'/\T=T')/\er=er':=by
 rcases h with ⟨a,b,c,o,ne,rfl,rfl,rfl,rfl,rfl⟩ | ⟨a,b,c,o,nb,rfl,rfl,rfl,rfl,rfl,rfl⟩ | ⟨a,b,c,o,nb,ab,hs,rfl,rfl,rfl,rfl,rfl⟩
 ·rcases h' with ⟨a',b',c',o',ne',rfl,rfl,rfl,rfl,rfl⟩ | ⟨a',b',c',o',nb',_⟩ | ⟨a',b',c',o',nb',_⟩
  ·exact ⟨⟨rfl,rfl,rfl,rfl,rfl⟩,o.err o'⟩
  ·exact absurd (o.err o') ne
  ·exact absurd (o.err o') ne
 ·rcases h' with ⟨a',b',c',o',ne',_⟩ | ⟨a',b',c',o',nb',rfl,rfl,rfl,rfl,rfl,rfl⟩ | ⟨a',b',c',o',nb',_⟩
  ·exact absurd (o'.err o) ne'
  ·exact ⟨⟨rfl,rfl,rfl,rfl,rfl⟩,rfl⟩
  ·exact absurd nb' nb
 ·rcases h' with ⟨a',b',c',o',ne',_⟩ | ⟨a',b',c',o',nb',_⟩ | ⟨a',b',c',o',nb',ab',hs',rfl,rfl,rfl,rfl,rfl⟩
  ·exact absurd (o'.err o) ne'
  ·exact absurd nb nb'
  ·obtain ⟨⟨rfl,rfl,rfl⟩,-⟩:=o.one o'
   have b0:0<b.toNat:=by
    rcases o.cases with ⟨q,_⟩ | ⟨_,q⟩
    ·exact absurd rfl q
    ·have:=q.low.b1;omega
   exact ⟨⟨rfl,hs.uniq hs' b0,rfl,rfl,rfl⟩,rfl⟩
theorem guess_before (k:Int) (sl ic:Nat) (fr to q:Int) (h:q<=k):guessV k sl ic fr to q=guessV k sl ic fr to k:=by
 unfold guessV;rw [show (q-k).toNat=(k-k).toNat by omega]
def cntb (f:Nat->Int) (q:Int):Nat->Nat
 | 0=>0
 | j+1=>cntb f q j+(if f j<q then 1 else 0)
theorem cntb_le (f:Nat->Int) (q:Int) (n:Nat):cntb f q n<=n:=by
 induction n with
 | zero=>exact Nat.le_refl _
 | succ n ih=>show cntb f q n+(if f n<q then 1 else 0)<=n+1;split<;>omega
theorem cntb_up {f:Nat->Int} {n:Nat} (u:Up f n) (q:Int):∀ j,j<=n->(∀ i,i<cntb f q j->f i<q)/\(∀ i,cntb f q j<=i->i<j->q<=f i):=by
 intro j;induction j with
 | zero=>intro _;exact ⟨fun i hi=>by simp [cntb] at hi,fun i _ hi=>by omega⟩
 | succ j ih =>
  intro hj;obtain ⟨a,b⟩:=ih (by omega)
  have le:=cntb_le f q j;have e:cntb f q (j+1)=cntb f q j+(if f j<q then 1 else 0):=rfl
  by_cases h:f j<q
  ·rw [if_pos h] at e
   have full:cntb f q j=j:=by
    by_cases c:cntb f q j=j
    ·exact c
    ·have x:=b (cntb f q j) (Nat.le_refl _) (by omega)
     have y:=u.le (show cntb f q j<=j by omega) (by omega)
     omega
   rw [e,full];refine ⟨fun i hi=>?_,fun i h1 h2=>by omega⟩
   by_cases c:i=j
   ·subst c;exact h
   ·exact a i (by omega)
  ·rw [if_neg h] at e
   rw [e,Nat.add_zero];refine ⟨a,fun i h1 h2=>?_⟩
   by_cases c:i=j
   ·subst c;omega
   ·exact b i h1 (by omega)
theorem probe_off {k:Int} {sl ic:Nat} {fr to:Int} {n:Nat} {f:Nat->Int} {N:Int} (h:errM sl ic fr to=0) (hn:(n:Int)=to-fr) (hk:f 0=k) (u:Up f n) (bd:∀ i,i<n->0<=f i/\f i<18446744073709551616) (N0:0<=N)
  (off:∀ i,i<n->-N<=away k sl ic fr to f i/\away k sl ic fr to f i<=N) (q:Int) (q1:q<18446744073709551616) (first:k<=q):-(N+1)<=guessV k sl ic fr to q-(fr+cntb f q n)/\guessV k sl ic fr to q-(fr+cntb f q n)<=N+1:=by
 obtain ⟨a,b,c,d,e⟩:=errM_ok.1 h;have n0:0<n:=by omega
 have k0:0<=k:=hk▸(bd 0 n0).1;obtain ⟨c1,c2⟩:=cntb_up u q n (Nat.le_refl _);have:=off_probe (f:=f) (n:=n) (g:=fun x=>guessV k sl ic fr to (min x 18446744073709551615)) (lo:=fr) (N:=N) n0 (fun x y _ hxy=>guessV_mono h k0 (by omega) (by omega)) (fun i hi=>u.le (Nat.zero_le i) hi)
  (fun x _=>by have:=guessV_in (q:=min x 18446744073709551615) h k0 (by omega);omega) N0 (fun i hi=>by
   have o:=off i hi;have bi:=bd i hi;unfold away at o;rw [show min (f i) 18446744073709551615=f i by omega]
   omega) q (cntb f q n) (cntb_le f q n) c1 c2 (by omega)
 simp only [show min q 18446744073709551615=q by omega] at this
 omega
open Go.RowKit
structure SegOk (k:Int) (sl ic:Nat) (fr to:Int):Prop where
 k0:0<=k
 k1:k<18446744073709551616
 s1:sl<18446744073709551616
 i1:ic<18446744073709551616
 f0:-9223372036854775808<=fr
 f1:fr<9223372036854775808
 t0:-9223372036854775808<=to
 t1:to<9223372036854775808
def SegOut (ex:Ending) (eps fr:Int) (f:Nat->Int) (n:Nat):Prop:=∃ (k:Int) (s ic:Nat) (F T er:Int),ex=.returned (.tuple #[segV k s ic F T,.int .i64 er])/\SegR eps fr f n k s ic F T er
def OffOut (ex:Ending) (k:Int) (sl ic:Nat) (fr to:Int) (n:Nat) (f:Nat->Int):Prop:=∃ N er:Int,ex=.returned (.tuple #[.int .i64 N,.int .i64 er])/\OffR k sl ic fr to n f N er
structure ModelC:Prop where
 check:∀ (k:Int) (sl ic:Nat) (fr to:Int),SegOk k sl ic fr to->∀ w:World,Calls prog 215 #[segV k sl ic fr to] w fun e w'=>e=.returned (.int .i64 (errM sl ic fr to))/\Gw w w'
 guess:∀ (k:Int) (sl ic:Nat) (fr to q:Int),SegOk k sl ic fr to->0<=q->q<18446744073709551616->∀ w:World,Calls prog 193 #[segV k sl ic fr to,.int .u64 q] w fun e w'=>e=.returned (.int .i64 (guessV k sl ic fr to q))/\Gw w w'
 off:∀ (k:Int) (sl ic:Nat) (fr to:Int) (ao:Option Addr) (n cp:Nat) (f:Nat->Int),SegOk k sl ic fr to->n*8<=140737488351232->n<=cp->∀ w:World,KS w ao n f->Calls prog 226 #[segV k sl ic fr to,.slice ao n cp] w fun e w'=>OffOut e k sl ic fr to n f/\Gw w w'
 of:∀ (eps fr:Int) (ao:Option Addr) (n cp:Nat) (f:Nat->Int),-9223372036854775808<=eps->eps<9223372036854775808->-9223372036854775808<=fr->fr<9223372036854775808->n<=2000000->n<=cp->∀ w:World,KS w ao n f->Calls prog 153 #[.slice ao n cp,.int .i64 eps,.int .i64 fr] w fun e w'=>SegOut e eps fr f n/\Gw w w'
theorem foi_lt (t:Int):floatOfInt .f64 t<18446744073709551616:=by
 obtain ⟨b,_,e⟩:=ofInt_any t;rw [e];have:min b 9218868437227405312<=9218868437227405312:=Nat.min_le_right _ _;generalize min b 9218868437227405312=m at this;unfold Ieee.Format.word;split
 ·show 9223372036854775808+m<_;omega
 ·omega
theorem SegR.ok {eps fr:Int} {f:Nat->Int} {n:Nat} {k:Int} {s ic:Nat} {F T er:Int} (h:SegR eps fr f n k s ic F T er) (hn:n<=2000000) (bd:∀ i,i<n->0<=f i/\f i<18446744073709551616):SegOk k s ic F T:=by
 rcases h with ⟨a,b,c,o,ne,rfl,rfl,rfl,rfl,rfl⟩ | ⟨a,b,c,o,nb,rfl,rfl,rfl,rfl,rfl,rfl⟩ | ⟨a,b,c,o,nb,ab,hs,rfl,rfl,rfl,rfl,rfl⟩
 ·exact ⟨by decide,by decide,by decide,by decide,by decide,by decide,by decide,by decide⟩
 ·exact ⟨by decide,by decide,by decide,by decide,by decide,by decide,by decide,by decide⟩
 ·obtain ⟨er,_⟩:=seg_bound o (by omega) bd ab.1 ab.2 nb.1 nb.2 hs
  obtain ⟨_,_,_,sl,_⟩:=errM_ok.1 er;have n0:0<n:=by
   rcases o.cases with ⟨q,_⟩ | ⟨_,q⟩
   ·exact absurd rfl q
   ·exact q.n0
  exact ⟨(bd 0 n0).1,(bd 0 n0).2,by omega,foi_lt _,by omega,by omega,by omega,by omega⟩
end Go.Proofs.YteflpamjgaeaiaaGreat
