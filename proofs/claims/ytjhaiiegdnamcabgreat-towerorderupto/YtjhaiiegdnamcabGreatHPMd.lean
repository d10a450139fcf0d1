/- How far off a segment is; the document's Off. -/
import Derived.Test.YtjhaiiegdnamcabGreatHPBs
import Derived.Test.YtjhaiiegdnamcabGreatHPFl
import Derived.Test.YtjhaiiegdnamcabGreatHPFg
namespace Go.Proofs.YtjhaiiegdnamcabGreat
open Go.RowKit
set_option linter.unusedVariables false
def worst (g:Nat→Int):Nat→Int
 | 0=>0
 | j+1=>max (max (worst g j) (g j)) (-(g j))
theorem worst_in (g:Nat→Int) (n:Nat):0≤worst g n∧∀ i,i<n→-(worst g n)≤g i∧g i≤worst g n:=by
 induction n with
 | zero=>exact ⟨Int.le_refl _,fun i hi=>by omega⟩
 | succ n ih =>
  obtain ⟨a,b⟩:=ih
  have e:worst g (n+1)=max (max (worst g n) (g n)) (-(g n)):=rfl
  refine ⟨by omega,fun i hi=>?_⟩
  by_cases c:i=n
  ·subst c;omega
  ·have:=b i (by omega);omega
theorem worst_le {g:Nat→Int} {M:Int} (M0:0≤M):∀ n,(∀ i,i<n→-M≤g i∧g i≤M)→worst g n≤M:=by
 intro n
 induction n with
 | zero=>intro _;exact M0
 | succ n ih =>
  intro h
  have a:=ih fun i hi=>h i (by omega)
  have b:=h n (by omega)
  show max (max (worst g n) (g n)) (-(g n))≤M
  omega
def away (k:Int) (sl ic:Nat) (fr to:Int) (f:Nat→Int) (i:Nat):Int:=guessV k sl ic fr to (f i)-(fr+i)
def OffR (k:Int) (sl ic:Nat) (fr to:Int) (n:Nat) (f:Nat→Int) (N er:Int):Prop :=
 (errM sl ic fr to≠0∧N=0∧er=errM sl ic fr to) ∨
 (errM sl ic fr to=0∧¬ ((n:Int)=to-fr∧f 0=k∧Up f n)∧N=0∧er=1) ∨
 (errM sl ic fr to=0∧((n:Int)=to-fr∧f 0=k∧Up f n)∧N=worst (away k sl ic fr to f) n∧er=0)
theorem OffR.uniq {k:Int} {sl ic:Nat} {fr to:Int} {n:Nat} {f:Nat→Int} {N N' er er':Int} (h:OffR k sl ic fr to n f N er) (h':OffR k sl ic fr to n f N' er'):N=N'∧er=er':=by
 rcases h with ⟨a,b,c⟩ | ⟨a,b,c,d⟩ | ⟨a,b,c,d⟩<;>rcases h' with ⟨a',b',c'⟩ | ⟨a',b',c',d'⟩ | ⟨a',b',c',d'⟩<;>first
  | exact absurd a' a
  | exact absurd a a'
  | exact absurd b' b
  | exact absurd b b'
  | (subst b c b' c';exact ⟨rfl,rfl⟩)
  | (subst c d c' d';exact ⟨rfl,rfl⟩)
theorem away_bd {k:Int} {sl ic:Nat} {fr to:Int} {f:Nat→Int} {n:Nat} (h:errM sl ic fr to=0) (k0:0≤k) (hn:(n:Int)=to-fr) (bd:∀ i,i<n→0≤f i∧f i<18446744073709551616):∀ i,i<n→-4294967296≤away k sl ic fr to f i∧away k sl ic fr to f i≤4294967296:=by
 intro i hi
 obtain ⟨a,b,c,d,e⟩:=errM_ok.1 h
 have:=guessV_in h k0 (bd i hi).2
 unfold away
 omega
end Go.Proofs.YtjhaiiegdnamcabGreat
namespace Go.Proofs.YtjhaiiegdnamcabGreat
open Go.RowKit
set_option linter.unusedVariables false
theorem whole_f (t:Int) (h0:-9007199254740992≤t) (h1:t≤9007199254740992):rg (floatOfInt .f64 t)<9218868437227405312∧SV (floatOfInt .f64 t)=t*Un:=by
 obtain ⟨b,hb,e⟩:=rep_small t.natAbs (by omega)
 rw [ofInt_whole t b hb e]
 refine ⟨by rw [word_rg _ _ (by omega)];exact hb,?_⟩
 rw [SV_word _ _ (by omega),e]
 by_cases n:t<0
 ·rw [if_pos (decide_eq_true n)]
  have:(t.natAbs:Int)=-t:=by omega
  rw [Int.natCast_mul,this,Int.neg_mul,Int.neg_neg]
 ·rw [if_neg (by simpa using n)]
  have:(t.natAbs:Int)=t:=by omega
  rw [Int.natCast_mul,this]
theorem low_most1 {e:Int} {f:Nat→Int} {n:Nat} {a b:Int} (he:0≤e) (u:Up f n) (h:LowOn e f (Prs n) a b):a≤b:=by
 have b1:=h.b1
 rcases h.att with q | ⟨i,j,s,m,r⟩
 ·omega
 ·have a0:=h.a0
  have D:(j:Int)-i≤f j-f i:=by
   obtain ⟨s1,s2⟩:=s
   have:∀ t:Nat,i+t<n→(t:Int)≤f (i+t)-f i:=by
    intro t
    induction t with
    | zero=>intro _;simp
    | succ t ih =>
     intro ht
     have x:=ih (by omega)
     have y:=u (i+t) (by omega)
     have z:i+(t+1)=i+t+1:=rfl
     rw [z];omega
   have k:=this (j-i) (by omega)
   rw [show i+(j-i)=j by omega] at k
   omega
  have k1:a*((j:Int)-i-2*e)≤a*(f j-f i):=Int.mul_le_mul_of_nonneg_left (by omega) a0
  rw [←r,Int.mul_comm] at k1
  exact Int.le_of_mul_le_mul_left k1 m
theorem slope_le {a b s:Nat} (b0:0<b) (h:a≤b) (hs:Nr (a*Un) b s):s≤4607182418800017408:=by
 refine hs.mono (Nr.of_eq (x:=Un) (y:=1) (by decide) (by rw [V1];omega)) b0 (by decide) ?_
 rw [Nat.mul_one,Nat.mul_comm Un]
 exact Nat.mul_le_mul_right _ h
theorem seg_bound {eps:Int} {f:Nat→Int} {n:Nat} {a b c fr:Int} {s:Nat} (h:OfR eps f n a b c 0) (hn:n≤100000000) (bd:∀ i,i<n→0≤f i∧f i<18446744073709551616) (a1:a<18446744073709551616) (b1:b<18446744073709551616)
  (f0:0≤fr) (f1:fr+n≤4294967296) (hs:Nr (a.toNat*Un) b.toNat s) :
  errM s (floatOfInt .f64 (fr+c)) fr (fr+n)=0∧∀ i,i<n→-eps≤away (f 0) s (floatOfInt .f64 (fr+c)) fr (fr+n) f i∧away (f 0) s (floatOfInt .f64 (fr+c)) fr (fr+n) f i≤eps:=by
 rcases h with ⟨_,_,_,_,h⟩ | ⟨_,_,_,_,_,h⟩ | ⟨_,_,_,_,_,_,h⟩ | ⟨ke,⟨n0,u⟩,F,L,B,_⟩
 ·cases h
 ·cases h
 ·cases h
 have a0:=L.a0
 have bb:=L.b1
 obtain ⟨st,c0,c1⟩:=of_stays ke u n0 hn F L (near_of (by omega) u L F) B
 obtain ⟨wf,ws⟩:=whole_f (fr+c) (by omega) (by omega)
 have s1:=slope_le (b:=b.toNat) (by omega) (by have:=low_most1 (by omega) u L;omega) hs
 have er:errM s (floatOfInt .f64 (fr+c)) fr (fr+n)=0:=errM_ok.2 ⟨f0,by omega,f1,by omega,wf⟩
 refine ⟨er,fun i hi=>?_⟩
 have d0:=u.le (Nat.zero_le i) hi
 have bi:=bd i hi
 have b0':=bd 0 n0
 obtain ⟨-,l1,l2⟩:=st i hi
 have sm:=line_small (e:=eps-1) (by omega) u L F hi
 obtain ⟨d,hd⟩:∃ d:Nat,f i-f 0=d:=⟨(f i-f 0).toNat,by omega⟩
 obtain ⟨A,rfl⟩:∃ A:Nat,a=A:=⟨a.toNat,by omega⟩
 obtain ⟨Bn,rfl⟩:∃ Bn:Nat,b=Bn:=⟨b.toNat,by omega⟩
 rw [Int.toNat_natCast,Int.toNat_natCast] at hs
 rw [hd] at l1 l2 sm
 have q:(A:Int)*d/Bn=((A*d/Bn:Nat):Int):=by rw [Int.natCast_ediv,Int.natCast_mul]
 rw [q] at l1 l2 sm
 obtain ⟨y,p,r,v,hy,ey,hp,ep,hr,ev,fv,sv,-,-⟩:=line_right (sl:=s) (ic:=floatOfInt .f64 (fr+c)) (far:=d) (by omega) wf (by omega)
 rw [ws] at hr sv
 have hq:A*d≤17179869184*Bn:=by
  have x:=Nat.div_add_mod (A*d) Bn
  have z:=Nat.mod_lt (A*d) (show 0<Bn by omega)
  have k:A*d/Bn+1≤17179869184:=by omega
  have k2:=Nat.mul_le_mul_right Bn k
  rw [Nat.add_mul,Nat.mul_comm (A*d/Bn)] at k2
  omega
 obtain ⟨g1,g2⟩:=floor_near (a:=A) (b:=Bn) (d:=d) (c:=fr+c) (by omega) (by omega) (by omega) (by omega) hs hy hp hq (by omega) (by omega) hr
 unfold away
 rw [guessV_gv er b0'.1 bi.2,hd,Int.toNat_natCast,gfl_is ey ep ev]
 have fl:flo v=rnd ((V p:Int)+(fr+c)*Un) r/Un:=by unfold flo;rw [sv]
 rw [fl]
 have:=gv_near (t:=rnd ((V p:Int)+(fr+c)*Un) r/Un) (lo:=fr) (hi:=fr+n) (x:=fr+i) (k:=eps) (by omega) (by omega) (by omega) (by omega) (by omega)
 omega
end Go.Proofs.YtjhaiiegdnamcabGreat
namespace Go.Proofs.YtjhaiiegdnamcabGreat
open Go.RowKit
set_option linter.unusedVariables false
def SegR (eps fr:Int) (f:Nat→Int) (n:Nat) (k:Int) (s ic:Nat) (F T er:Int):Prop :=
 (∃ a b c,OfR eps f n a b c er∧er≠0∧k=0∧s=0∧ic=0∧F=0∧T=0) ∨
 (∃ a b c,OfR eps f n a b c 0∧¬ (0≤fr∧fr+n≤4294967296)∧k=0∧s=0∧ic=0∧F=0∧T=0∧er=1) ∨
 (∃ a b c,OfR eps f n a b c 0∧(0≤fr∧fr+n≤4294967296)∧(a<18446744073709551616∧b<18446744073709551616)∧Nr (a.toNat*Un) b.toNat s∧k=f 0∧ic=floatOfInt .f64 (fr+c)∧F=fr∧T=fr+n∧er=0)
def Sb (w:World) (b:Nat) (k:Int) (s ic:Nat) (F T:Int):Prop:=w.heap[b]?=some (.cells #[.int .u64 k, .float .f64 s, .float .f64 ic, .int .i64 F, .int .i64 T] 167 (0,0))
theorem Sb.lt {w:World} {b:Nat} {k:Int} {s ic:Nat} {F T:Int} (h:Sb w b k s ic F T):b<w.heap.size:=(Array.getElem?_eq_some_iff.1 h).1
theorem Sb.gw {w w':World} {b:Nat} {k:Int} {s ic:Nat} {F T:Int} (h:Sb w b k s ic F T) (g:Gw w w'):Sb w' b k s ic F T:=(g.below.block b h.lt).trans h
theorem Sb.cells {w:World} {b:Nat} {k:Int} {s ic:Nat} {F T:Int} (h:Sb w b k s ic F T):w.cell? ⟨b,0,none⟩=some (.int .u64 k)∧w.cell? ⟨b,1,none⟩=some (.float .f64 s)∧w.cell? ⟨b,2,none⟩=some (.float .f64 ic)∧w.cell? ⟨b,3,none⟩=some (.int .i64 F)∧w.cell? ⟨b,4,none⟩=some (.int .i64 T):=by
 unfold Sb at h;simp [World.cell?,h]
theorem Sb.fz {w:World} {b:Nat} {k:Int} {s ic:Nat} {F T:Int} (h:Sb w b k s ic F T) (o:Nat):w.frozen? ⟨b,o,none⟩=false:=by unfold Sb at h;simp [World.frozen?,h]
theorem run_store_float {P:Program} {w:World} {a:Addr} {m:Mode} (k:FloatKind) (n:Nat):(store a (.float k n) m).run P w=stored P w a (.float k n) m:=run_store P w a _ m rfl
attribute [local go_sem] run_store_float
end Go.Proofs.YtjhaiiegdnamcabGreat
namespace Go.Proofs.YtjhaiiegdnamcabGreat
set_option linter.unusedVariables false
theorem OfR.err {eps:Int} {f:Nat→Int} {n:Nat} {a b c a' b' c' e e':Int} (h:OfR eps f n a b c e) (h':OfR eps f n a' b' c' e'):e=e':=(h.one h').2
theorem SegR.one {eps fr:Int} {f:Nat→Int} {n:Nat} {k k':Int} {s s' ic ic':Nat} {F F' T T' er er':Int} (h:SegR eps fr f n k s ic F T er) (h':SegR eps fr f n k' s' ic' F' T' er'):(k=k'∧s=s'∧ic=ic'∧F=F'∧T=T')∧er=er':=by
 rcases h with ⟨a,b,c,o,ne,rfl,rfl,rfl,rfl,rfl⟩ | ⟨a,b,c,o,nb,rfl,rfl,rfl,rfl,rfl,rfl⟩ | ⟨a,b,c,o,nb,ab,hs,rfl,rfl,rfl,rfl,rfl⟩
 ·rcases h' with ⟨a',b',c',o',ne',rfl,rfl,rfl,rfl,rfl⟩ | ⟨a',b',c',o',nb',_⟩ | ⟨a',b',c',o',nb',_⟩
  ·exact ⟨⟨rfl,rfl,rfl,rfl,rfl⟩,o.err o'⟩
  ·exact absurd (o.err o') ne
  ·exact absurd (o.err o') ne
 ·rcases h' with ⟨a',b',c',o',ne',_⟩ | ⟨a',b',c',o',nb',rfl,rfl,rfl,rfl,rfl,rfl⟩ | ⟨a',b',c',o',nb',_⟩
  ·exact absurd (o'.err o) ne'
  ·exact ⟨⟨rfl,rfl,rfl,rfl,rfl⟩,rfl⟩
  ·exact absurd nb' nb
 ·rcases h' with ⟨a',b',c',o',ne',_⟩ | ⟨a',b',c',o',nb',_⟩ | ⟨a',b',c',o',nb',ab',hs',rfl,rfl,rfl,rfl,rfl⟩
  ·exact absurd (o'.err o) ne'
  ·exact absurd nb nb'
  ·obtain ⟨⟨rfl,rfl,rfl⟩,-⟩:=o.one o'
   have b0:0<b.toNat:=by
    rcases o.cases with ⟨q,_⟩ | ⟨_,q⟩
    ·exact absurd rfl q
    ·have:=q.low.b1;omega
   exact ⟨⟨rfl,hs.uniq hs' b0,rfl,rfl,rfl⟩,rfl⟩
theorem guess_before (k:Int) (sl ic:Nat) (fr to q:Int) (h:q≤k):guessV k sl ic fr to q=guessV k sl ic fr to k:=by
 unfold guessV;rw [show (q-k).toNat=(k-k).toNat by omega]
def cntb (f:Nat→Int) (q:Int):Nat→Nat
 | 0=>0
 | j+1=>cntb f q j+(if f j<q then 1 else 0)
theorem cntb_le (f:Nat→Int) (q:Int) (n:Nat):cntb f q n≤n:=by
 induction n with
 | zero=>exact Nat.le_refl _
 | succ n ih=>show cntb f q n+(if f n<q then 1 else 0)≤n+1;split<;>omega
theorem cntb_up {f:Nat→Int} {n:Nat} (u:Up f n) (q:Int):∀ j,j≤n→(∀ i,i<cntb f q j→f i<q)∧(∀ i,cntb f q j≤i→i<j→q≤f i):=by
 intro j
 induction j with
 | zero=>intro _;exact ⟨fun i hi=>by simp [cntb] at hi,fun i _ hi=>by omega⟩
 | succ j ih =>
  intro hj
  obtain ⟨a,b⟩:=ih (by omega)
  have le:=cntb_le f q j
  have e:cntb f q (j+1)=cntb f q j+(if f j<q then 1 else 0):=rfl
  by_cases h:f j<q
  ·rw [if_pos h] at e
   have full:cntb f q j=j:=by
    by_cases c:cntb f q j=j
    ·exact c
    ·have x:=b (cntb f q j) (Nat.le_refl _) (by omega)
     have y:=u.le (show cntb f q j≤j by omega) (by omega)
     omega
   rw [e,full]
   refine ⟨fun i hi=>?_,fun i h1 h2=>by omega⟩
   by_cases c:i=j
   ·subst c;exact h
   ·exact a i (by omega)
  ·rw [if_neg h] at e
   rw [e,Nat.add_zero]
   refine ⟨a,fun i h1 h2=>?_⟩
   by_cases c:i=j
   ·subst c;omega
   ·exact b i h1 (by omega)
theorem probe_off {k:Int} {sl ic:Nat} {fr to:Int} {n:Nat} {f:Nat→Int} {N:Int} (h:errM sl ic fr to=0) (hn:(n:Int)=to-fr) (hk:f 0=k) (u:Up f n) (bd:∀ i,i<n→0≤f i∧f i<18446744073709551616) (N0:0≤N)
  (off:∀ i,i<n→-N≤away k sl ic fr to f i∧away k sl ic fr to f i≤N) (q:Int) (q1:q<18446744073709551616) (first:k≤q):-(N+1)≤guessV k sl ic fr to q-(fr+cntb f q n)∧guessV k sl ic fr to q-(fr+cntb f q n)≤N+1:=by
 obtain ⟨a,b,c,d,e⟩:=errM_ok.1 h
 have n0:0<n:=by omega
 have k0:0≤k:=hk▸(bd 0 n0).1
 obtain ⟨c1,c2⟩:=cntb_up u q n (Nat.le_refl _)
 have:=off_probe (f:=f) (n:=n) (g:=fun x=>guessV k sl ic fr to (min x 18446744073709551615)) (lo:=fr) (N:=N) n0 (fun x y _ hxy=>guessV_mono h k0 (by omega) (by omega)) (fun i hi=>u.le (Nat.zero_le i) hi)
  (fun x _=>by have:=guessV_in (q:=min x 18446744073709551615) h k0 (by omega);omega) N0 (fun i hi=>by
   have o:=off i hi
   have bi:=bd i hi
   unfold away at o
   rw [show min (f i) 18446744073709551615=f i by omega]
   omega) q (cntb f q n) (cntb_le f q n) c1 c2 (by omega)
 simp only [show min q 18446744073709551615=q by omega] at this
 omega
end Go.Proofs.YtjhaiiegdnamcabGreat
namespace Go.Proofs.YtjhaiiegdnamcabGreat
open Go.RowKit
set_option linter.unusedVariables false
structure SegOk (k:Int) (sl ic:Nat) (fr to:Int):Prop where
 k0:0≤k
 k1:k<18446744073709551616
 s1:sl<18446744073709551616
 i1:ic<18446744073709551616
 f0:-9223372036854775808≤fr
 f1:fr<9223372036854775808
 t0:-9223372036854775808≤to
 t1:to<9223372036854775808
def SegOut (ex:Ending) (eps fr:Int) (f:Nat→Int) (n:Nat):Prop:=∃ (k:Int) (s ic:Nat) (F T er:Int),ex=.returned (.tuple #[segV k s ic F T, .int .i64 er])∧SegR eps fr f n k s ic F T er
def OffOut (ex:Ending) (k:Int) (sl ic:Nat) (fr to:Int) (n:Nat) (f:Nat→Int):Prop:=∃ N er:Int,ex=.returned (.tuple #[.int .i64 N, .int .i64 er])∧OffR k sl ic fr to n f N er
structure ModelC:Prop where
 check:∀ (k:Int) (sl ic:Nat) (fr to:Int),SegOk k sl ic fr to→∀ w:World,Calls Tryz.prog 190 #[segV k sl ic fr to] w fun e w'=>e=.returned (.int .i64 (errM sl ic fr to))∧Gw w w'
 guess:∀ (k:Int) (sl ic:Nat) (fr to q:Int),SegOk k sl ic fr to→0≤q→q<18446744073709551616→∀ w:World,Calls Tryz.prog 168 #[segV k sl ic fr to, .int .u64 q] w fun e w'=>e=.returned (.int .i64 (guessV k sl ic fr to q))∧Gw w w'
 off:∀ (k:Int) (sl ic:Nat) (fr to:Int) (ao:Option Addr) (n cp:Nat) (f:Nat→Int),SegOk k sl ic fr to→n*8≤140737488351232→n≤cp→∀ w:World,KS w ao n f→Calls Tryz.prog 201 #[segV k sl ic fr to, .slice ao n cp] w fun e w'=>OffOut e k sl ic fr to n f∧Gw w w'
 of:∀ (eps fr:Int) (ao:Option Addr) (n cp:Nat) (f:Nat→Int),-9223372036854775808≤eps→eps<9223372036854775808→-9223372036854775808≤fr→fr<9223372036854775808→n≤2000000→n≤cp→∀ w:World,KS w ao n f→Calls Tryz.prog 135 #[.slice ao n cp, .int .i64 eps, .int .i64 fr] w fun e w'=>SegOut e eps fr f n∧Gw w w'
theorem foi_lt (t:Int):floatOfInt .f64 t<18446744073709551616:=by
 obtain ⟨b,_,e⟩:=ofInt_any t
 rw [e]
 have:min b 9218868437227405312≤9218868437227405312:=Nat.min_le_right _ _
 generalize min b 9218868437227405312=m at this
 unfold Ieee.Format.word
 split
 ·show 9223372036854775808+m<_;omega
 ·omega
theorem SegR.ok {eps fr:Int} {f:Nat→Int} {n:Nat} {k:Int} {s ic:Nat} {F T er:Int} (h:SegR eps fr f n k s ic F T er) (hn:n≤2000000) (bd:∀ i,i<n→0≤f i∧f i<18446744073709551616):SegOk k s ic F T:=by
 rcases h with ⟨a,b,c,o,ne,rfl,rfl,rfl,rfl,rfl⟩ | ⟨a,b,c,o,nb,rfl,rfl,rfl,rfl,rfl,rfl⟩ | ⟨a,b,c,o,nb,ab,hs,rfl,rfl,rfl,rfl,rfl⟩
 ·exact ⟨by decide,by decide,by decide,by decide,by decide,by decide,by decide,by decide⟩
 ·exact ⟨by decide,by decide,by decide,by decide,by decide,by decide,by decide,by decide⟩
 ·obtain ⟨er,_⟩:=seg_bound o (by omega) bd ab.1 ab.2 nb.1 nb.2 hs
  obtain ⟨_,_,_,sl,_⟩:=errM_ok.1 er
  have n0:0<n:=by
   rcases o.cases with ⟨q,_⟩ | ⟨_,q⟩
   ·exact absurd rfl q
   ·exact q.n0
  exact ⟨(bd 0 n0).1,(bd 0 n0).2,by omega,foi_lt _,by omega,by omega,by omega,by omega⟩
end Go.Proofs.YtjhaiiegdnamcabGreat
