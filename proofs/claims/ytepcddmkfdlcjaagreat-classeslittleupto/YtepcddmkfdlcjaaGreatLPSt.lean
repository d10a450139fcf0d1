/- What follows of segments, for the laws: no Go in it. -/
import Derived.Test.YtepcddmkfdlcjaaGreatLPMd
namespace Go.Proofs.YtepcddmkfdlcjaaGreat
set_option linter.unusedVariables false
theorem OfR.err {eps:Int} {f:Nat→Int} {n:Nat} {a b c a' b' c' e e':Int} (h:OfR eps f n a b c e) (h':OfR eps f n a' b' c' e'):e=e':=(h.one h').2
theorem SegR.one {eps fr:Int} {f:Nat→Int} {n:Nat} {k k':Int} {s s' ic ic':Nat} {F F' T T' er er':Int} (h:SegR eps fr f n k s ic F T er) (h':SegR eps fr f n k' s' ic' F' T' er'):(k=k'∧s=s'∧ic=ic'∧F=F'∧T=T')∧er=er':=by
 rcases h with ⟨a,b,c,o,ne,rfl,rfl,rfl,rfl,rfl⟩ | ⟨a,b,c,o,nb,rfl,rfl,rfl,rfl,rfl,rfl⟩ | ⟨a,b,c,o,nb,ab,hs,rfl,rfl,rfl,rfl,rfl⟩
 ·rcases h' with ⟨a',b',c',o',ne',rfl,rfl,rfl,rfl,rfl⟩ | ⟨a',b',c',o',nb',_⟩ | ⟨a',b',c',o',nb',_⟩
  ·exact ⟨⟨rfl,rfl,rfl,rfl,rfl⟩,o.err o'⟩
  ·exact absurd (o.err o') ne
  ·exact absurd (o.err o') ne
 ·rcases h' with ⟨a',b',c',o',ne',_⟩ | ⟨a',b',c',o',nb',rfl,rfl,rfl,rfl,rfl,rfl⟩ | ⟨a',b',c',o',nb',_⟩
  ·exact absurd (o'.err o) ne'
  ·exact ⟨⟨rfl,rfl,rfl,rfl,rfl⟩,rfl⟩
  ·exact absurd nb' nb
 ·rcases h' with ⟨a',b',c',o',ne',_⟩ | ⟨a',b',c',o',nb',_⟩ | ⟨a',b',c',o',nb',ab',hs',rfl,rfl,rfl,rfl,rfl⟩
  ·exact absurd (o'.err o) ne'
  ·exact absurd nb nb'
  ·obtain ⟨⟨rfl,rfl,rfl⟩,-⟩:=o.one o'
   have b0:0<b.toNat:=by
    rcases o.cases with ⟨q,_⟩ | ⟨_,q⟩
    ·exact absurd rfl q
    ·have:=q.low.b1;omega
   exact ⟨⟨rfl,hs.uniq hs' b0,rfl,rfl,rfl⟩,rfl⟩
theorem guess_before (k:Int) (sl ic:Nat) (fr to q:Int) (h:q≤k):guessV k sl ic fr to q=guessV k sl ic fr to k:=by
 unfold guessV;rw [show (q-k).toNat=(k-k).toNat by omega]
def cntb (f:Nat→Int) (q:Int):Nat→Nat
 | 0=>0
 | j+1=>cntb f q j+(if f j<q then 1 else 0)
theorem cntb_le (f:Nat→Int) (q:Int) (n:Nat):cntb f q n≤n:=by
 induction n with
 | zero=>exact Nat.le_refl _
 | succ n ih=>show cntb f q n+(if f n<q then 1 else 0)≤n+1;split<;>omega
theorem cntb_up {f:Nat→Int} {n:Nat} (u:Up f n) (q:Int):∀ j,j≤n→(∀ i,i<cntb f q j→f i<q)∧(∀ i,cntb f q j≤i→i<j→q≤f i):=by
 intro j
 induction j with
 | zero=>intro _;exact ⟨fun i hi=>by simp [cntb] at hi,fun i _ hi=>by omega⟩
 | succ j ih =>
  intro hj
  obtain ⟨a,b⟩:=ih (by omega)
  have le:=cntb_le f q j
  have e:cntb f q (j+1)=cntb f q j+(if f j<q then 1 else 0):=rfl
  by_cases h:f j<q
  ·rw [if_pos h] at e
   have full:cntb f q j=j:=by
    by_cases c:cntb f q j=j
    ·exact c
    ·have x:=b (cntb f q j) (Nat.le_refl _) (by omega)
     have y:=u.le (show cntb f q j≤j by omega) (by omega)
     omega
   rw [e,full]
   refine ⟨fun i hi=>?_,fun i h1 h2=>by omega⟩
   by_cases c:i=j
   ·subst c;exact h
   ·exact a i (by omega)
  ·rw [if_neg h] at e
   rw [e,Nat.add_zero]
   refine ⟨a,fun i h1 h2=>?_⟩
   by_cases c:i=j
   ·subst c;omega
   ·exact b i h1 (by omega)
theorem probe_off {k:Int} {sl ic:Nat} {fr to:Int} {n:Nat} {f:Nat→Int} {N:Int} (h:errM sl ic fr to=0) (hn:(n:Int)=to-fr) (hk:f 0=k) (u:Up f n) (bd:∀ i,i<n→0≤f i∧f i<18446744073709551616) (N0:0≤N)
  (off:∀ i,i<n→-N≤away k sl ic fr to f i∧away k sl ic fr to f i≤N) (q:Int) (q1:q<18446744073709551616) (first:k≤q):-(N+1)≤guessV k sl ic fr to q-(fr+cntb f q n)∧guessV k sl ic fr to q-(fr+cntb f q n)≤N+1:=by
 obtain ⟨a,b,c,d,e⟩:=errM_ok.1 h
 have n0:0<n:=by omega
 have k0:0≤k:=hk▸(bd 0 n0).1
 obtain ⟨c1,c2⟩:=cntb_up u q n (Nat.le_refl _)
 have:=off_probe (f:=f) (n:=n) (g:=fun x=>guessV k sl ic fr to (min x 18446744073709551615)) (lo:=fr) (N:=N) n0 (fun x y _ hxy=>guessV_mono h k0 (by omega) (by omega)) (fun i hi=>u.le (Nat.zero_le i) hi)
  (fun x _=>by have:=guessV_in (q:=min x 18446744073709551615) h k0 (by omega);omega) N0 (fun i hi=>by
   have o:=off i hi
   have bi:=bd i hi
   unfold away at o
   rw [show min (f i) 18446744073709551615=f i by omega]
   omega) q (cntb f q n) (cntb_le f q n) c1 c2 (by omega)
 simp only [show min q 18446744073709551615=q by omega] at this
 omega
end Go.Proofs.YtepcddmkfdlcjaaGreat
namespace Go.Proofs.YtepcddmkfdlcjaaGreat
open Go.RowKit
set_option linter.unusedVariables false
structure SegOk (k:Int) (sl ic:Nat) (fr to:Int):Prop where
 k0:0≤k
 k1:k<18446744073709551616
 s1:sl<18446744073709551616
 i1:ic<18446744073709551616
 f0:-9223372036854775808≤fr
 f1:fr<9223372036854775808
 t0:-9223372036854775808≤to
 t1:to<9223372036854775808
def SegOut (ex:Ending) (eps fr:Int) (f:Nat→Int) (n:Nat):Prop:=∃ (k:Int) (s ic:Nat) (F T er:Int),ex=.returned (.tuple #[segV k s ic F T, .int .i64 er])∧SegR eps fr f n k s ic F T er
def OffOut (ex:Ending) (k:Int) (sl ic:Nat) (fr to:Int) (n:Nat) (f:Nat→Int):Prop:=∃ N er:Int,ex=.returned (.tuple #[.int .i64 N, .int .i64 er])∧OffR k sl ic fr to n f N er
structure ModelC:Prop where
 check:∀ (k:Int) (sl ic:Nat) (fr to:Int),SegOk k sl ic fr to→∀ w:World,Calls Tryz.prog 138 #[segV k sl ic fr to] w fun e w'=>e=.returned (.int .i64 (errM sl ic fr to))∧Gw w w'
 guess:∀ (k:Int) (sl ic:Nat) (fr to q:Int),SegOk k sl ic fr to→0≤q→q<18446744073709551616→∀ w:World,Calls Tryz.prog 117 #[segV k sl ic fr to, .int .u64 q] w fun e w'=>e=.returned (.int .i64 (guessV k sl ic fr to q))∧Gw w w'
 off:∀ (k:Int) (sl ic:Nat) (fr to:Int) (ao:Option Addr) (n cp:Nat) (f:Nat→Int),SegOk k sl ic fr to→n*8≤140737488351232→n≤cp→∀ w:World,KS w ao n f→Calls Tryz.prog 174 #[segV k sl ic fr to, .slice ao n cp] w fun e w'=>OffOut e k sl ic fr to n f∧Gw w w'
 of:∀ (eps fr:Int) (ao:Option Addr) (n cp:Nat) (f:Nat→Int),-9223372036854775808≤eps→eps<9223372036854775808→-9223372036854775808≤fr→fr<9223372036854775808→n≤2000000→n≤cp→∀ w:World,KS w ao n f→Calls Tryz.prog 109 #[.slice ao n cp, .int .i64 eps, .int .i64 fr] w fun e w'=>SegOut e eps fr f n∧Gw w w'
theorem foi_lt (t:Int):floatOfInt .f64 t<18446744073709551616:=by
 obtain ⟨b,_,e⟩:=ofInt_any t
 rw [e]
 have:min b 9218868437227405312≤9218868437227405312:=Nat.min_le_right _ _
 generalize min b 9218868437227405312=m at this
 unfold Ieee.Format.word
 split
 ·show 9223372036854775808+m<_;omega
 ·omega
theorem SegR.ok {eps fr:Int} {f:Nat→Int} {n:Nat} {k:Int} {s ic:Nat} {F T er:Int} (h:SegR eps fr f n k s ic F T er) (hn:n≤2000000) (bd:∀ i,i<n→0≤f i∧f i<18446744073709551616):SegOk k s ic F T:=by
 rcases h with ⟨a,b,c,o,ne,rfl,rfl,rfl,rfl,rfl⟩ | ⟨a,b,c,o,nb,rfl,rfl,rfl,rfl,rfl,rfl⟩ | ⟨a,b,c,o,nb,ab,hs,rfl,rfl,rfl,rfl,rfl⟩
 ·exact ⟨by decide,by decide,by decide,by decide,by decide,by decide,by decide,by decide⟩
 ·exact ⟨by decide,by decide,by decide,by decide,by decide,by decide,by decide,by decide⟩
 ·obtain ⟨er,_⟩:=seg_bound o (by omega) bd ab.1 ab.2 nb.1 nb.2 hs
  obtain ⟨_,_,_,sl,_⟩:=errM_ok.1 er
  have n0:0<n:=by
   rcases o.cases with ⟨q,_⟩ | ⟨_,q⟩
   ·exact absurd rfl q
   ·exact q.n0
  exact ⟨(bd 0 n0).1,(bd 0 n0).2,by omega,foi_lt _,by omega,by omega,by omega,by omega⟩
end Go.Proofs.YtepcddmkfdlcjaaGreat
