/- Levels of segments, in plain words: heights, a level of stretches, what Check tells, what Build makes, and what follows. No Go in it. -/
import Derived.Test.YtklkpldicbkjeaaGreatVMROf
set_option linter.unusedVariables false
set_option maxHeartbeats 2000000
open Go.Proofs.Tryz
namespace Go.Proofs.YtklkpldicbkjeaaGreat
def mh (e:Nat):Nat->Nat->Nat
  | 0,_=>0
  | g+1,n=>if n<1 then 0 else if n<=2*e-1 then 1 else mh e g (n/e+1)+1
theorem oO {e n:Nat} (he:2<=e) (hn:¬ n<=2*e-1):n/e+1<n:=by
  have h1:n/e*e<=n:=Nat.div_mul_le_self n e;have h2:n/e*2<=n/e*e:=Nat.mul_le_mul_left _ he;omega
theorem Zg {e:Nat} (he:2<=e):∀ g g' n,n<=g->n<=g'->mh e g n=mh e g' n:=by
  intro g;induction g with
  | zero =>
    intro g' n h h';cases g' with
    | zero=>rfl
    | succ g' =>
                 have:n<1:=by omega
                 show 0=if n<1 then 0 else _
                 rw [if_pos this]
  | succ g ih =>
    intro g' n h h';cases g' with
    | zero =>
              have:n<1:=by omega
              show (if n<1 then 0 else _)=0
              rw [if_pos this]
    | succ g' =>
      show (if n<1 then 0 else if n<=2*e-1 then 1 else mh e g (n/e+1)+1)=(if n<1 then 0 else if n<=2*e-1 then 1 else mh e g' (n/e+1)+1)
      by_cases h1:n<1
      · rw [if_pos h1,if_pos h1]
      · rw [if_neg h1,if_neg h1]
        by_cases h2:n<=2*e-1
        · rw [if_pos h2,if_pos h2]
        · rw [if_neg h2,if_neg h2]
          have:=oO he h2
          rw [ih g' (n/e+1) (by omega) (by omega)]
def gC (e n:Nat):Nat:=mh e n n
theorem Zh (e:Nat):gC e 0=0:=rfl
theorem yQ {e n:Nat} (h0:0<n) (h:n<=2*e-1):gC e n=1:=by
  cases n with
  | zero=>omega
  | succ n =>
              show (if n+1<1 then 0 else if n+1<=2*e-1 then 1 else _)=1
              rw [if_neg (by omega),if_pos h]
theorem sW {e n:Nat} (he:2<=e) (h:¬ n<=2*e-1):gC e n=gC e (n/e+1)+1:=by
  have d:=oO he h;cases n with
  | zero=>omega
  | succ n =>
    show (if n+1<1 then 0 else if n+1<=2*e-1 then 1 else mh e n ((n+1)/e+1)+1)=_
    rw [if_neg (by omega),if_neg h]
    unfold gC;rw [Zg he n ((n+1)/e+1) ((n+1)/e+1) (by omega) (Nat.le_refl _)]
theorem Lg {e n:Nat} (he:2<=e) (h:0<n):0<gC e n:=by
  by_cases k:n<=2*e-1
  · rw [yQ h k];exact Nat.one_pos
  · rw [sW he k];omega
theorem Lh {e:Nat} (he:2<=e):∀ m n,n<=m->gC e n<=gC e m:=by
  intro m;induction m using Nat.strongRecOn with
  | ind m ih =>
    intro n h;by_cases h0:n=0
    · subst h0;rw [Zh];exact Nat.zero_le _
    · by_cases h1:n<=2*e-1
      · rw [yQ (by omega) h1];exact Lg he (by omega)
      · have h2:¬ m<=2*e-1:=by omega
        rw [sW he h1,sW he h2];have:=ih (m/e+1) (oO he h2) (n/e+1) (by have:=Nat.div_le_div_right (c:=e) h;omega)
        omega
structure Sg where
  k:Int
  sl:Nat
  ic:Nat
  fr:Int
  te:Int
def az:Sg:=⟨0,0,0,0,0⟩
def aW (l:List Sg) (i:Nat):Int:=(l.getD i az).k
def oP (eps:Int) (f:Nat->Int) (i j:Nat) (s:Sg):Prop:=fF eps i (sh f i) (j-i) s.k s.sl s.ic s.fr s.te 0
theorem oP.one {eps:Int} {f:Nat->Int} {i j:Nat} {s s':Sg} (h:oP eps f i j s) (h':oP eps f i j s'):s=s':=by
  obtain ⟨⟨h1,h2,h3,h4,h5⟩,_⟩:=fF.one h h';cases s;cases s';simp only [Sg.mk.injEq];exact ⟨h1,h2,h3,h4,h5⟩
structure Zi (eps:Int) (f:Nat->Int) (i j:Nat) (s:Sg):Prop where
  k:s.k=f i
  fr:s.fr=i
  te:s.te=j
  er:bU s.sl s.ic s.fr s.te=0
  off:dF (cd s.k s.sl s.ic s.fr s.te (sh f i)) (j-i)<=eps
theorem oP.facts {eps:Int} {f:Nat->Int} {i j n:Nat} {s:Sg} (h:oP eps f i j s) (hj:i<j) (hn:j<=n) (n1:n<=2000000) (bd:∀ t,t<n->0<=f t/\f t<18446744073709551616):Zi eps f i j s:=by
  rcases h with ⟨a,b,c,o,ne,_⟩ | ⟨a,b,c,o,nb,_,_,_,_,_,q⟩ | ⟨a,b,c,o,nb,ab,hs,hk,hi,hF,hT,_⟩
  · exact absurd rfl ne
  · cases q
  · have Zj:∀ t,t<j-i->0<=sh f i t/\sh f i t<18446744073709551616:=fun t ht=>bd (i+t) (by omega)
    obtain ⟨er,aw⟩:=K0 o (by omega) Zj ab.1 ab.2 nb.1 nb.2 hs
    have e1:2<=eps:=by
      rcases o.cases with ⟨q,_⟩ | ⟨_,q⟩
      · exact absurd rfl q
      · exact q.e1
    have sX:s.k=f i:=hk;refine ⟨sX,hF,?_,?_,?_⟩
    · rw [hT];omega
    · rw [hi,hF,hT];exact er
    · rw [hk,hi,hF,hT];exact KZ (by omega) _ aw
def cH (eps:Int) (f:Nat->Int) (n:Nat):Nat->List Sg->Prop
  | i,[]=>i=n
  | i,s::l=>∃ j,(i<j/\j<=n/\aQ (eps-1) (sh f i) (ay (j-i))/\(j<n->¬ aQ (eps-1) (sh f i) (ay (j+1-i))))/\oP eps f i j s/\cH eps f n j l
theorem cH.one {eps:Int} {f:Nat->Int} {n:Nat}:∀ {i:Nat} {l l':List Sg},cH eps f n i l->cH eps f n i l'->l=l':=by
  intro i l;induction l generalizing i with
  | nil =>
    intro l' h h';cases l' with
    | nil=>rfl
    | cons s l'=>obtain ⟨j,⟨a,b,_⟩,_⟩:=h';have:i=n:=h;omega
  | cons s l ih =>
    intro l' h h';cases l' with
    | nil=>obtain ⟨j,⟨a,b,_⟩,_⟩:=h;have:i=n:=h';omega
    | cons s' l' =>
      obtain ⟨j,⟨a,b,c,d⟩,g,r⟩:=h;obtain ⟨j',⟨a',b',c',d'⟩,g',r'⟩:=h';have e:j=j':=by
        rcases Nat.lt_trichotomy j j' with q | q | q
        · exact absurd (Kc c' (show j+1-i<=j'-i by omega)) (d (by omega))
        · exact q
        · exact absurd (Kc c (show j'+1-i<=j-i by omega)) (d' (by omega))
      subst e;rw [oP.one g g',ih r r']
theorem cH.ends {eps:Int} {f:Nat->Int} {n:Nat} (n1:n<=2000000) (bd:∀ t,t<n->0<=f t/\f t<18446744073709551616):∀ {i:Nat} {l:List Sg},cH eps f n i l->cT (eps-1) f n i (l.map fun s=>s.te.toNat):=by
  intro i l;induction l generalizing i with
  | nil=>exact fun h=>h
  | cons s l ih =>
    rintro ⟨j,⟨a,b,c,d⟩,g,r⟩;have F:=g.facts a b n1 bd;have e:s.te.toNat=j:=by rw [F.te];omega
    show cT (eps-1) f n i (s.te.toNat::l.map fun s=>s.te.toNat)
    rw [e];exact ⟨a,b,c,d,ih r⟩
def dk (n:Nat):Nat->List Sg->Bool
  | a,[]=>decide (a=n)
  | a,s::l=>decide (s.fr=a)&&decide ((a:Int)<s.te)&&decide (s.te<=n)&&dk n s.te.toNat l
theorem yR {n a:Nat} {s:Sg} {l:List Sg}:dk n a (s::l)=true↔s.fr=a/\(a:Int)<s.te/\s.te<=n/\dk n s.te.toNat l=true:=by
  simp [dk,and_assoc]
theorem CF {n a:Nat}:dk n a []=true↔a=n:=by simp [dk]
theorem cH.tiles {eps:Int} {f:Nat->Int} {n:Nat} (n1:n<=2000000) (bd:∀ t,t<n->0<=f t/\f t<18446744073709551616):∀ {i:Nat} {l:List Sg},cH eps f n i l->dk n i l=true:=by
  intro i l;induction l generalizing i with
  | nil=>exact fun h=>CF.2 h
  | cons s l ih =>
    rintro ⟨j,⟨a,b,c,d⟩,g,r⟩;have F:=g.facts a b n1 bd;have e:s.te.toNat=j:=by rw [F.te];omega
    refine yR.2 ⟨F.fr,by rw [F.te];omega,by rw [F.te];omega,?_⟩
    rw [e];exact ih r
def iT (eps:Int) (f:Nat->Int) (s:Sg):Int :=
  if bU s.sl s.ic s.fr s.te≠0 then bU s.sl s.ic s.fr s.te else if s.k≠f s.fr.toNat then 83 else if eps<dF (cd s.k s.sl s.ic s.fr s.te (sh f s.fr.toNat)) (s.te-s.fr).toNat then 85 else 0
theorem kR {eps:Int} {f:Nat->Int} {s:Sg}:iT eps f s=0↔bU s.sl s.ic s.fr s.te=0/\s.k=f s.fr.toNat/\dF (cd s.k s.sl s.ic s.fr s.te (sh f s.fr.toNat)) (s.te-s.fr).toNat<=eps:=by
  unfold iT;by_cases h:bU s.sl s.ic s.fr s.te=0
  · rw [if_neg (fun q=>q h)]
    by_cases h1:s.k=f s.fr.toNat
    · rw [if_neg (fun q=>q h1)]
      by_cases h2:eps<dF (cd s.k s.sl s.ic s.fr s.te (sh f s.fr.toNat)) (s.te-s.fr).toNat
      · rw [if_pos h2];constructor
        · intro q;cases q
        · rintro ⟨_,_,q⟩;omega
      · rw [if_neg h2];exact ⟨fun _=>⟨h,h1,by omega⟩,fun _=>rfl⟩
    · rw [if_pos h1];constructor
      · intro q;cases q
      · rintro ⟨_,q,_⟩;exact absurd q h1
  · rw [if_pos h];constructor
    · intro q;exact absurd q h
    · rintro ⟨q,_⟩;exact absurd q h
def dV (eps:Int) (f:Nat->Int):List Sg->Int
  | []=>0
  | s::l=>if iT eps f s≠0 then iT eps f s else dV eps f l
theorem CJ {eps:Int} {f:Nat->Int} {l:List Sg}:dV eps f l=0↔∀ s∈l,iT eps f s=0:=by
  induction l with
  | nil=>simp [dV]
  | cons s l ih =>
    unfold dV;by_cases h:iT eps f s=0
    · rw [if_neg (fun q=>q h),ih];simp [h]
    · rw [if_pos h];constructor
      · intro q;exact absurd q h
      · intro q;exact absurd (q s (by simp)) h
theorem cH.right {eps:Int} {f:Nat->Int} {n:Nat} (n1:n<=2000000) (bd:∀ t,t<n->0<=f t/\f t<18446744073709551616):∀ {i:Nat} {l:List Sg},cH eps f n i l->∀ s∈l,iT eps f s=0:=by
  intro i l;induction l generalizing i with
  | nil=>intro _ s hs;cases hs
  | cons s l ih =>
    rintro ⟨j,⟨a,b,c,d⟩,g,r⟩ s' dT;rcases List.mem_cons.1 dT with rfl | q
    · have F:=g.facts a b n1 bd
      have e:s'.fr.toNat=i:=by rw [F.fr];omega
      refine kR.2 ⟨F.er,by rw [e];exact F.k,?_⟩
      rw [e,show (s'.te-s'.fr).toNat=j-i by rw [F.te,F.fr];omega]
      exact F.off
    · exact ih r s' q
def kS (eps:Int):(Nat->Int)->Nat->List (List Sg)->Int
  | _,_,[]=>0
  | f,n,l::r=>if (dk n 0 l&&!l.isEmpty)=false then 82 else if dV eps f l≠0 then dV eps f l else if r=[] then (if l.length=1 then 0 else 84) else kS eps (aW l) l.length r
def cU (eps:Int):(Nat->Int)->Nat->List (List Sg)->Prop
  | _,n,[]=>n=0
  | f,n,l::r=>0<n/\cH eps f n 0 l/\(if l.length=1 then r=[] else cU eps (aW l) l.length r)
theorem nJ {f:Nat->Int} {n:Nat} (u:Up f n):∀ {l:List Sg} {a:Nat},dk n a l=true->(∀ s∈l,s.k=f s.fr.toNat)->Up (aW l) l.length/\(l≠[]->aW l 0=f a/\a<n)/\∀ t,t<l.length->∃ i,a<=i/\i<n/\aW l t=f i:=by
  intro l;induction l with
  | nil=>intro a h _;exact ⟨fun j hj=>by simp at hj,fun q=>absurd rfl q,fun t ht=>by simp at ht⟩
  | cons s l ih =>
    intro a h hk;obtain ⟨h1,h2,h3,h4⟩:=yR.1 h;obtain ⟨u1,u2,u3⟩:=ih h4 (fun s hs=>hk s (List.mem_cons_of_mem _ hs))
    have k0:s.k=f a:=by rw [hk s (by simp),h1];congr 1
    have an:a<n:=by omega
    refine ⟨fun j hj=>?_,fun _=>⟨k0,an⟩,fun t ht=>?_⟩
    · cases j with
      | zero =>
        have ne:l≠[]:=fun q=>by subst q;simp at hj
        obtain ⟨e,lt⟩:=u2 ne;show s.k<aW l 0;rw [k0,e];exact u.lt (by omega) lt
      | succ j=>exact u1 j (by simpa using hj)
    · cases t with
      | zero=>exact ⟨a,Nat.le_refl _,an,k0⟩
      | succ t=>obtain ⟨i,i1,i2,i3⟩:=u3 t (by simpa using ht);exact ⟨i,by omega,i2,i3⟩
theorem cH.keys {eps:Int} {f:Nat->Int} {n:Nat} (n1:n<=2000000) (bd:∀ t,t<n->0<=f t/\f t<18446744073709551616) {i:Nat} {l:List Sg} (h:cH eps f n i l):∀ s∈l,s.k=f s.fr.toNat:=fun s hs=>(kR.1 (h.right n1 bd s hs)).2.1
theorem yS {f:Nat->Int} {n:Nat} {l:List Sg} (bd:∀ t,t<n->0<=f t/\f t<18446744073709551616) (h:∀ t,t<l.length->∃ i,0<=i/\i<n/\aW l t=f i):∀ t,t<l.length->0<=aW l t/\aW l t<18446744073709551616:=by
  intro t ht;obtain ⟨i,_,i2,i3⟩:=h t ht;rw [i3];exact bd i i2
theorem cH.len {eps:Int} {f:Nat->Int} {n:Nat} (n1:n<=2000000) (bd:∀ t,t<n->0<=f t/\f t<18446744073709551616) {i:Nat} {l:List Sg} (h:cH eps f n i l):i+l.length<=n:=by
  have:=(h.ends n1 bd).len
  simpa using this
theorem cH.some {eps:Int} {f:Nat->Int} {n:Nat} {i:Nat} {l:List Sg} (h:cH eps f n i l) (hi:i<n):l≠[]:=by
  rintro rfl;have:i=n:=h;omega
theorem cU.one {eps:Int}:∀ {L L':List (List Sg)} {f:Nat->Int} {n:Nat},cU eps f n L->cU eps f n L'->L=L':=by
  intro L;induction L with
  | nil =>
    intro L' f n h h';cases L' with
    | nil=>rfl
    | cons l r=>have:=h'.1;have h0:n=0:=h;omega
  | cons l r ih =>
    intro L' f n h h';cases L' with
    | nil=>have:=h.1;have h0:n=0:=h';omega
    | cons l' r' =>
      obtain ⟨a,b,c⟩:=h;obtain ⟨a',b',c'⟩:=h';obtain rfl:=b.one b';by_cases q:l.length=1
      · rw [if_pos q] at c c';rw [c,c']
      · rw [if_neg q] at c c';rw [ih c c']
theorem cU.chk {eps:Int}:∀ {L:List (List Sg)} {f:Nat->Int} {n:Nat},n<=2000000->(∀ t,t<n->0<=f t/\f t<18446744073709551616)->Up f n->cU eps f n L->kS eps f n L=0:=by
  intro L;induction L with
  | nil=>intro f n _ _ _ _;rfl
  | cons l r ih =>
    intro f n n1 bd u h;obtain ⟨a,b,c⟩:=h;have tl:=b.tiles n1 bd;have ne:=b.some a;have rt:=CJ.2 (b.right n1 bd);show (if (dk n 0 l&&!l.isEmpty)=false then 82 else if dV eps f l≠0 then dV eps f l else if r=[] then (if l.length=1 then 0 else 84) else kS eps (aW l) l.length r)=0
    rw [if_neg (by rw [tl];simp [ne]),if_neg (fun q=>q rt)]
    by_cases q:l.length=1
    · rw [if_pos q] at c
      rw [if_pos c,if_pos q]
    · rw [if_neg q] at c
      have r0:r≠[]:=by
        rintro rfl;have:l.length=0:=c;exact ne (List.eq_nil_of_length_eq_zero this)
      rw [if_neg r0];obtain ⟨u1,_,u3⟩:=nJ u tl (b.keys n1 bd);have:=b.len n1 bd;exact ih (by omega) (yS bd u3) u1 c
theorem cH.count {eps:Int} (e1:2<=eps) {f:Nat->Int} {n:Nat} (n0:0<n) (n1:n<=2000000) (bd:∀ t,t<n->0<=f t/\f t<18446744073709551616) (u:Up f n) {l:List Sg} (h:cH eps f n 0 l):((l.length:Int)-1)*(2*eps-1)+1<=n:=by
  have:=(h.ends n1 bd).count (by omega) u n0
  rw [List.length_map,show 2*(eps-1)+1=2*eps-1 by omega] at this
  simpa using this
theorem cH.few {eps:Int} (e1:2<=eps) {f:Nat->Int} {n:Nat} (n0:0<n) (n1:n<=2000000) (bd:∀ t,t<n->0<=f t/\f t<18446744073709551616) (u:Up f n) {l:List Sg} (h:cH eps f n 0 l):l.length<=n/eps.toNat+1/\(l.length≠1->¬ n<=2*eps.toNat-1):=by
  have c:=h.count e1 n0 n1 bd u;have l0:0<l.length:=List.length_pos_iff.2 (h.some n0);obtain ⟨e,he⟩:∃ e:Nat,eps=e:=⟨eps.toNat,by omega⟩
  subst he;obtain ⟨m,hm⟩:∃ m,l.length=m+1:=⟨l.length-1,by omega⟩
  rw [hm] at c ⊢;rw [show ((m+1:Nat):Int)-1=m by omega] at c
  rw [Int.toNat_natCast];have c':m*(2*e-1)+1<=n:=by
    have:((m*(2*e-1)+1:Nat):Int)<=n:=by
      rw [Int.natCast_add,Int.natCast_mul,show ((2*e-1:Nat):Int)=2*(e:Int)-1 by omega]
      exact c
    omega
  refine ⟨?_,fun q=>?_⟩
  · have:m<=n/e:=by
      rw [Nat.le_div_iff_mul_le (by omega)]
      have:m*e<=m*(2*e-1):=Nat.mul_le_mul_left _ (by omega)
      omega
    omega
  · have m1:1<=m:=by omega
    have:1*(2*e-1)<=m*(2*e-1):=Nat.mul_le_mul_right _ m1
    omega
theorem cU.low {eps:Int} (e1:2<=eps):∀ {L:List (List Sg)} {f:Nat->Int} {n:Nat},n<=2000000->(∀ t,t<n->0<=f t/\f t<18446744073709551616)->Up f n->cU eps f n L->L.length<=gC eps.toNat n:=by
  intro L;induction L with
  | nil=>intro f n _ _ _ _;exact Nat.zero_le _
  | cons l r ih =>
    intro f n n1 bd u h;obtain ⟨a,b,c⟩:=h;have e2:2<=eps.toNat:=by omega
    by_cases q:l.length=1
    · rw [if_pos q] at c
      subst c;exact Lg e2 a
    · rw [if_neg q] at c
      obtain ⟨k1,k2⟩:=b.few e1 a n1 bd u;obtain ⟨u1,_,u3⟩:=nJ u (b.tiles n1 bd) (b.keys n1 bd);have ln:=b.len n1 bd;have:=ih (by omega) (yS bd u3) u1 c
      rw [sW e2 (k2 q)];have:=Lh e2 _ _ k1;simp only [List.length_cons];omega
theorem cU.none {eps:Int} {f:Nat->Int} {n:Nat} {L:List (List Sg)} (h:cU eps f n L):L=[]↔n=0:=by
  cases L with
  | nil=>exact ⟨fun _=>h,fun _=>rfl⟩
  | cons l r=>exact ⟨(fun q=>by cases q),fun q=>by have:=h.1;omega⟩
def mv (B:Int) (s:Sg):Sg:=⟨s.k+B,s.sl,s.ic,s.fr,s.te⟩
theorem CN {f:Nat->Int} {n:Nat} (u:Up f n) (q:Int) (c:Nat) (hc:c<=n) (hl:∀ i,i<c->f i<q) (hr:∀ i,c<=i->i<n->q<=f i):ax f q n=c:=by
  obtain ⟨a,b⟩:=oN u q n (Nat.le_refl _);have le:=nI f q n;rcases Nat.lt_trichotomy (ax f q n) c with h | h | h
  · have:=hl _ h;have:=b _ (Nat.le_refl _) (by omega);omega
  · exact h
  · have:=a c h;have:=hr c (Nat.le_refl _) (by omega);omega
theorem CO {n:Nat}:∀ {l:List Sg} {a:Nat},dk n a l=true->∀ t,t<l.length->(a:Int)<=(l.getD t az).fr/\(l.getD t az).fr<(l.getD t az).te/\(l.getD t az).te<=n/\(t=0->(l.getD t az).fr=a)/\(t+1<l.length->(l.getD (t+1) az).fr=(l.getD t az).te)/\(t+1=l.length->(l.getD t az).te=n):=by
  intro l;induction l with
  | nil=>intro a _ t ht;simp at ht
  | cons s l ih =>
    intro a h t ht;obtain ⟨h1,h2,h3,h4⟩:=yR.1 h;cases t with
    | zero =>
      refine ⟨by show (a:Int)<=s.fr;omega,by show s.fr<s.te;omega,h3,fun _=>h1,fun q=>?_,fun q=>?_⟩
      · have:=(ih h4 0 (by simpa using q)).2.2.2.1 rfl
        show (l.getD 0 az).fr=s.te;omega
      · have:l=[]:=by simpa using q
        subst this;have:=CF.1 h4;show s.te=n;omega
    | succ t =>
      obtain ⟨q1,q2,q3,q4,q5,q6⟩:=ih h4 t (by simpa using ht)
      refine ⟨?_,q2,q3,fun q=>(by cases q),fun q=>q5 (by simpa using q),fun q=>q6 (by simpa using q)⟩
      show (a:Int)<=(l.getD t az).fr;omega
theorem Zk {eps:Int} {f:Nat->Int} {n:Nat} {l:List Sg} (u:Up f n) (bd:∀ t,t<n->0<=f t/\f t<18446744073709551616) (tl:dk n 0 l=true) (ok:∀ s∈l,iT eps f s=0) (q:Int) (q1:q<18446744073709551616) (t:Nat) (ht:t<l.length) (pick:t=0\/aW l t<=q) (last:∀ t',t<t'->t'<l.length->q<aW l t') (s:Sg) (hs:l.getD t az=s) :
    (-(eps+1)<=cP s.k s.sl s.ic s.fr s.te q-ax f q n/\cP s.k s.sl s.ic s.fr s.te q-ax f q n<=eps+1)/\((∃ i,i<n/\f i=q)->-eps<=cP s.k s.sl s.ic s.fr s.te q-ax f q n/\cP s.k s.sl s.ic s.fr s.te q-ax f q n<=eps):=by
  have T:=CO tl t ht;have mem:s∈l:=by
    rw [<-hs,List.getD_eq_getElem?_getD,List.getElem?_eq_getElem ht];exact List.getElem_mem ht
  obtain ⟨er,hk,off⟩:=kR.1 (ok s mem);rw [hs] at T;obtain ⟨T1,T2,T3,T4,T5,T6⟩:=T;obtain ⟨a,ha⟩:∃ a:Nat,s.fr=a:=⟨s.fr.toNat,by omega⟩
  obtain ⟨b,hb⟩:∃ b:Nat,s.te=b:=⟨s.te.toNat,by omega⟩
  have ab:a<b:=by omega
  have bn:b<=n:=by omega
  have l9:s.fr.toNat=a:=by omega
  rw [l9] at hk off;rw [show (s.te-s.fr).toNat=b-a by omega] at off
  have Zl:∀ i,i<b-a->0<=sh f a i/\sh f a i<18446744073709551616:=fun i hi=>bd (a+i) (by omega)
  have su:Up (sh f a) (b-a):=oJ u bn;have k0:0<=s.k:=by rw [hk];exact (bd a (by omega)).1
  obtain ⟨w0,w1⟩:=KY (cd s.k s.sl s.ic s.fr s.te (sh f a)) (b-a);generalize dF (cd s.k s.sl s.ic s.fr s.te (sh f a)) (b-a)=N at off w0 w1;have uS:∀ i,b<=i->i<n->q<f i:=fun i h1 h2=>by
    by_cases c:t+1<l.length
    · have e:=T5 c
      have m':l.getD (t+1) az∈l:=by
        rw [List.getD_eq_getElem?_getD,List.getElem?_eq_getElem c];exact List.getElem_mem c
      have k':=(kR.1 (ok _ m')).2.1;have lt:=last (t+1) (by omega) c
      have e2:aW l (t+1)=f b:=by
        show (l.getD (t+1) az).k=f b;rw [k',e];congr 1;omega
      rw [e2] at lt;have:=u.le h1 h2;omega
    · have:=T6 (by omega)
      omega
  by_cases c:s.k<=q
  ·
    have P:=Zd er (show ((b-a:Nat):Int)=s.te-s.fr by omega) (show sh f a 0=s.k from hk.symm) su Zl w0 w1 q q1 c
    have le:=nI (sh f a) q (b-a);obtain ⟨c1,c2⟩:=oN su q (b-a) (Nat.le_refl _);have cn:ax f q n=a+ax (sh f a) q (b-a):=by
      refine CN u q _ (by omega) (fun i hi=>?_) (fun i h1 h2=>?_)
      · by_cases x:i<a
        · have:=u.lt x (show a<n by omega)
          omega
        · have:=c1 (i-a) (by omega)
          have e:sh f a (i-a)=f i:=by show f (a+(i-a))=f i;rw [show a+(i-a)=i by omega]
          rw [e] at this;exact this
      · by_cases x:i<b
        · have:=c2 (i-a) (by omega) (by omega)
          have e:sh f a (i-a)=f i:=by show f (a+(i-a))=f i;rw [show a+(i-a)=i by omega]
          rw [e] at this;exact this
        · have:=uS i (by omega) h2;omega
    rw [cn];refine ⟨by omega,?_⟩
    rintro ⟨i,hi,hq⟩;have ia:a<=i:=by
      rcases Nat.lt_or_ge i a with x | x
      · have:=u.lt x (show a<n by omega);omega
      · exact x
    have ib:i<b:=by
      rcases Nat.lt_or_ge i b with x | x
      · exact x
      · have:=uS i x hi;omega
    have e:sh f a (i-a)=q:=by show f (a+(i-a))=q;rw [show a+(i-a)=i by omega];exact hq
    have cc:ax (sh f a) q (b-a)=i-a:=by
      refine CN su q _ (by omega) (fun j hj=>?_) (fun j h1 h2=>?_)
      · rw [<-e];exact su.lt hj (by omega)
      · rw [<-e];exact su.le h1 h2
    have W:=w1 (i-a) (by omega)
    unfold cd at W;rw [e] at W;rw [cc];omega
  ·
    have t0:t=0:=by
      rcases pick with x | x
      · exact x
      · have:aW l t=s.k:=by show (l.getD t az).k=s.k;rw [hs]
        omega
    have a0:a=0:=by have:=T4 t0;omega
    have n0:0<n:=by omega
    have all:∀ i,i<n->q<f i:=fun i hi=>by
      have:=u.le (Nat.zero_le i) hi
      rw [a0] at hk;omega
    have cn:ax f q n=0:=CN u q 0 (Nat.zero_le _) (fun i hi=>by omega) (fun i _ hi=>by have:=all i hi;omega)
    rw [cn,Zc _ _ _ _ _ _ (by omega)]
    have W:=w1 0 (by omega)
    unfold cd at W;have e:sh f a 0=s.k:=hk.symm;rw [e] at W;refine ⟨by omega,?_⟩
    rintro ⟨i,hi,hq⟩;have:=all i hi;omega
def gU (n:Nat):Int->List Sg->Bool
  | a,[]=>decide (a=n)
  | a,s::l=>decide (s.fr=a)&&decide (a<s.te)&&gU n s.te l
theorem Zm {n:Nat}:∀ {l:List Sg} {a:Int},gU n a l=true->a<=n:=by
  intro l;induction l with
  | nil =>
           intro a h;have:a=n:=by simpa [gU] using h
           omega
  | cons s l ih =>
    intro a h;have h':(s.fr=a/\a<s.te)/\gU n s.te l=true:=by simpa [gU] using h
    have:=ih h'.2
    omega
theorem Zn {n:Nat}:∀ (l:List Sg) (a:Nat),gU n a l=dk n a l:=by
  intro l;induction l with
  | nil =>
           intro a;show decide ((a:Int)=n)=decide (a=n);by_cases h:a=n
           · simp [h]
           · rw [decide_eq_false (by omega),decide_eq_false h]
  | cons s l ih =>
    intro a;have e:gU n a (s::l)=true↔dk n a (s::l)=true:=by
      rw [yR];have u:gU n a (s::l)=true↔(s.fr=a/\(a:Int)<s.te)/\gU n s.te l=true:=by simp [gU]
      rw [u];constructor
      · rintro ⟨⟨h1,h2⟩,h3⟩
        have le:=Zm h3;obtain ⟨t,ht⟩:∃ t:Nat,s.te=t:=⟨s.te.toNat,by omega⟩
        rw [ht] at h3 ⊢;rw [ht] at h2 le;rw [Int.toNat_natCast];exact ⟨h1,h2,le,by rw [<-ih t];exact h3⟩
      · rintro ⟨h1,h2,h3,h4⟩
        obtain ⟨t,ht⟩:∃ t:Nat,s.te=t:=⟨s.te.toNat,by omega⟩
        rw [ht,Int.toNat_natCast] at h4;rw [ht] at h2 ⊢;exact ⟨⟨h1,h2⟩,by rw [ih t];exact h4⟩
    cases h1:gU n a (s::l) with
    | true=>exact (e.1 h1).symm
    | false =>
      cases h2:dk n a (s::l) with
      | false=>rfl
      | true=>have:=e.2 h2;rw [h1] at this;cases this
theorem CQ {n:Nat} {a:Int} {s:Sg} {l:List Sg}:gU n a (s::l)=(decide (s.fr=a)&&decide (a<s.te)&&gU n s.te l):=rfl
open Go.RowKit
structure yT (w:World) (b off:Nat) (s:Sg):Prop where
  c0:w.cell? ⟨b,off,none⟩=some (.int .u64 s.k)
  c1:w.cell? ⟨b,off+1,none⟩=some (.float .f64 s.sl)
  c2:w.cell? ⟨b,off+2,none⟩=some (.float .f64 s.ic)
  c3:w.cell? ⟨b,off+3,none⟩=some (.int .i64 s.fr)
  c4:w.cell? ⟨b,off+4,none⟩=some (.int .i64 s.te)
theorem yT.gw {w w':World} {b off:Nat} {s:Sg} (h:yT w b off s) (hb:b<w.heap.size) (g:Gw w w'):yT w' b off s :=
  ⟨(g.cell _ _ hb).trans h.c0,(g.cell _ _ hb).trans h.c1,(g.cell _ _ hb).trans h.c2,(g.cell _ _ hb).trans h.c3,(g.cell _ _ hb).trans h.c4⟩
abbrev Sg.ok (s:Sg):Prop:=uR s.k s.sl s.ic s.fr s.te
abbrev Li (s:Sg):Value:=eF s.k s.sl s.ic s.fr s.te
structure GS (w:World) (ao:Option Addr) (l:List Sg):Prop where
  cells:0<l.length->∃ b off,ao=some ⟨b,off,none⟩/\b<w.heap.size/\∀ i,i<l.length->yT w b (off+i*5) (l.getD i az)
  ok:∀ i,i<l.length->(l.getD i az).ok
theorem GS.gw {w w':World} {ao:Option Addr} {l:List Sg} (h:GS w ao l) (g:Gw w w'):GS w' ao l :=
  ⟨fun h0=>by
    obtain ⟨b,off,e,hb,hc⟩:=h.cells h0;exact ⟨b,off,e,Nat.lt_of_lt_of_le hb g.size,fun i hi=>(hc i hi).gw hb g⟩,h.ok⟩
structure VS (w:World) (ao:Option Addr) (L:List (List Sg)):Prop where
  cells:0<L.length->∃ b off,ao=some ⟨b,off,none⟩/\b<w.heap.size/\∀ i,i<L.length->∃ bo c,w.cell? ⟨b,off+i,none⟩=some (.slice bo (L.getD i []).length c)/\(L.getD i []).length<=c/\(bo=none->(L.getD i []).length=0/\c=0)/\GS w bo (L.getD i [])
theorem VS.gw {w w':World} {ao:Option Addr} {L:List (List Sg)} (h:VS w ao L) (g:Gw w w'):VS w' ao L :=
  ⟨fun h0=>by
    obtain ⟨b,off,e,hb,hc⟩:=h.cells h0;refine ⟨b,off,e,Nat.lt_of_lt_of_le hb g.size,fun i hi=>?_⟩
    obtain ⟨bo,c,h1,h2,h3,h4⟩:=hc i hi;exact ⟨bo,c,(g.cell _ _ hb).trans h1,h2,h3,h4.gw g⟩⟩
theorem Lj {w:World} {ao:Option Addr} {l:List Sg} (h:GS w ao l):∀ t,t<l.length->0<=aW l t/\aW l t<18446744073709551616:=fun t ht=>⟨(h.ok t ht).k0,(h.ok t ht).k1⟩
theorem Zo (ao:Option Addr) (c:Nat) (l:List Sg) (hl:l.length<=4000000) (w:World) (h:GS w ao l) :
    Calls prog 88 #[.slice ao l.length c] w fun e w'=>(∃ b cap,e=.returned (.slice (some ⟨b,0,none⟩) l.length cap)/\w.heap.size<=b/\l.length<=cap/\KS w' (some ⟨b,0,none⟩) l.length (aW l))/\Gw w w':=by
  have HG:ag _:=h;clear h;obtain ⟨n,hn⟩:∃ n,l.length=n:=⟨_,rfl⟩;have LN:ag _:=hn;rw [hn] at hl;rw [hn];clear hn;obtain ⟨ii,aM,hz,hs,aL⟩:=info_parts oF;have R3:ag ((w.alloc (.cells #[] 34)).ownsRow w.heap.size 34 1 (.slice (some ⟨w.heap.size,0,none⟩) 0 0) 0 ((List.range 0).map fun j=>Value.int .u64 (aW l j))):=World.ownsRow_made w #[] 0 (Nat.le_refl _) (Nat.zero_le _) rfl
  have G3:ag (Gw w (w.alloc (.cells #[] 34))):=(Gw.refl w).alloc _ _;have B3:ag (w.heap.size<=w.heap.size):=Nat.le_refl _;go_enter func88,ntmps88;go_wp2_with fail;generalize w.alloc (.cells #[] 34)=w3 at R3 G3 ⊢;go_loopg [3,4] n (fun gg s3 s4 wr=>∃ i b cap:Nat,s3=.slice (some ⟨b,0,none⟩) i cap/\s4=.int .i64 i/\i<=n/\n-i<=gg/\ag (w.heap.size<=b)/\ag (wr.ownsRow w.heap.size 34 1 (.slice (some ⟨b,0,none⟩) i cap) i ((List.range i).map fun j=>Value.int .u64 (aW l j)))/\ag (Gw w wr))
  case atStart=>exact ⟨0,w.heap.size,0,rfl,rfl,Nat.zero_le _,by omega,B3,R3,G3⟩
  case round =>
    clear R3 G3 B3;obtain ⟨i,b,cap,rfl,rfl,h1,h2,BW,R,G⟩:=hrel;by_cases ak:i<n
    · obtain ⟨bk,off,rfl,iD,hc⟩:=(HG.o.gw G.o).cells (by rw [LN.o];omega)
      have q1:=(hc i (by rw [LN.o];exact ak)).c0
      obtain ⟨fi,eG⟩:∃ y,aW l i=y:=⟨_,rfl⟩;have FI:ag _:=eG;have q2:wr.cell? ⟨bk,off+i*5,none⟩=some (.int .u64 fi):=by rw [<-eG];exact q1
      clear hc eG q1;have z0:=G.o.size;go_wp2_with (at_builtin;refine wpList_append_own _ rfl _ _ 90 rfl w.heap.size 34 ii (.int .u64 0) 1 8 underlying90 aM hz hs aL rfl (by decide) _ i _ rfl (R.o.alloc _) ⟨wr.heap.size,0,none⟩ 1 1 [.int .u64 fi] rfl rfl (sK wr fi) (ints_oneCell .u64 [fi]) (by simp only [maxLen];omega) (by omega) (by simp;omega) ?_)
      intro v' w5 yU gD Lk;obtain ⟨b5,dw,rfl,dH,_,_⟩:=cS yU (by simpa using Lk)
      have R5:ag (w5.ownsRow w.heap.size 34 1 (.slice (some ⟨b5,0,none⟩) (i+1) dw) (i+1) ((List.range (i+1)).map fun j=>Value.int .u64 (aW l j))):=by
        have:=yU
        rw [<-FI.o] at this;rw [List.range_succ,List.map_append];exact this
      have G5:ag (Gw w w5):=(G.o.alloc _ _).grown gD (fun k hk=>by cases hk;exact BW.o)
      have B5:ag _:=dH;clear yU gD Lk R G BW dH q2 FI;go_wp2_with fail;go_roundg (n-(i+1))
      case measure=>omega
      case rel=>exact ⟨i+1,b5,dw,rfl,by go_num,by omega,Nat.le_refl _,B5,R5,G5⟩
    · have ei:i=n:=by omega
      subst ei;have K4:ag (KS wr (some ⟨b,0,none⟩) i (aW l)):=uB R.o (Nat.le_refl _) (fun j hj=>by simp [hj]) (fun j hj=>Lj HG.o j (by rw [LN.o];exact hj))
      obtain ⟨_,_,ev,_,ic,_⟩:=cS R.o (by simp)
      cases ev
      clear R;go_wp2_with fail;go_ret;exact ⟨⟨b,cap,rfl,BW.o,ic,K4.o⟩,G.o⟩
theorem Ll {l:List Sg} {i:Nat} (h:i<l.length):l.drop i=l.getD i az::l.drop (i+1):=by
  rw [List.drop_eq_getElem_cons h,List.getD_eq_getElem?_getD,List.getElem?_eq_getElem h];rfl
def ma (n eps:Int):Int:=if 2<=eps/\eps<=64/\1<=n then (gC eps.toNat n.toNat:Nat) else 0
theorem Lm {e:Nat} (he:2<=e):∀ n,gC e n<=n:=by
  intro n;induction n using Nat.strongRecOn with
  | ind n ih =>
    by_cases h0:n=0
    · subst h0;exact Nat.le_refl _
    · by_cases h1:n<=2*e-1
      · rw [yQ (by omega) h1];omega
      · rw [sW he h1]
        have:=ih _ (oO he h1)
        have:=oO he h1
        omega
end Go.Proofs.YtklkpldicbkjeaaGreat
namespace Go.Proofs.YtklkpldicbkjeaaGreat
open Go.RowKit
attribute [local go_sem] fZ
def iU (eps:Int) (f:Nat->Int) (n:Nat) (L:List (List Sg)) (E:Int):Prop :=
  (¬ (2<=eps/\eps<=64)/\E=1)\/((2<=eps/\eps<=64)/\¬ Up f n/\E=80)\/((2<=eps/\eps<=64)/\Up f n/\¬ ((L.length:Int)<=ma 4294967296 eps/\(L.length=0↔n=0))/\E=81)\/((2<=eps/\eps<=64)/\Up f n/\((L.length:Int)<=ma 4294967296 eps/\(L.length=0↔n=0))/\E=kS eps f n L)
theorem iU.one {eps:Int} {f:Nat->Int} {n:Nat} {L:List (List Sg)} {E E':Int} (h:iU eps f n L E) (h':iU eps f n L E'):E=E':=by
  rcases h with ⟨a,rfl⟩ | ⟨a,b,rfl⟩ | ⟨a,b,c,rfl⟩ | ⟨a,b,c,rfl⟩<;>rcases h' with ⟨a',rfl⟩ | ⟨a',b',rfl⟩ | ⟨a',b',c',rfl⟩ | ⟨a',b',c',rfl⟩<;>first
    | rfl
    | exact absurd a a'
    | exact absurd a' a
    | exact absurd b b'
    | exact absurd b' b
    | exact absurd c c'
    | exact absurd c' c
theorem Zp {L:List (List Sg)} {i:Nat} (h:i<L.length):L.drop i=L.getD i []::L.drop (i+1):=by
  rw [List.drop_eq_getElem_cons h,List.getD_eq_getElem?_getD,List.getElem?_eq_getElem h];rfl
theorem CU {w:World} {bk off n a b:Nat} {f:Nat->Int} (h:KS w (some ⟨bk,off,none⟩) n f) (hb:b<=n):KS w (some ⟨bk,off+a,none⟩) (b-a) (sh f a) :=
  ⟨fun h0=>by
    obtain ⟨b',o',e,hl,hc⟩:=h.cells (by omega)
    cases e
    exact ⟨bk,off+a,rfl,hl,fun i hi=>by rw [Nat.add_assoc];exact hc (a+i) (by omega)⟩,fun i hi=>h.bd (a+i) (by omega)⟩
def yV (eps:Int) (l:List Sg) (r:List (List Sg)):Int:=if r=[] then (if l.length=1 then 0 else 84) else kS eps (aW l) l.length r
theorem Lo {eps:Int} {f:Nat->Int} {n:Nat} {l:List Sg} {r:List (List Sg)}:kS eps f n (l::r)=if (dk n 0 l&&!l.isEmpty)=false then 82 else if dV eps f l≠0 then dV eps f l else yV eps l r:=rfl
theorem Zq {eps:Int} {f:Nat->Int} {s:Sg} {l:List Sg}:dV eps f (s::l)=if iT eps f s≠0 then iT eps f s else dV eps f l:=rfl
end Go.Proofs.YtklkpldicbkjeaaGreat
namespace Go.Proofs.YtklkpldicbkjeaaGreat
open Go.RowKit
def oQ (eps:Int) (f:Nat->Int) (n:Nat) (L:List (List Sg)) (err:Int):Prop :=
  (¬ (2<=eps/\eps<=64)/\L=[]/\err=1)\/((2<=eps/\eps<=64)/\¬ Up f n/\L=[]/\err=80)\/((2<=eps/\eps<=64)/\Up f n/\cU eps f n L/\err=0)
def Zr (ex:Ending) (eps:Int) (f:Nat->Int) (n:Nat) (L:List (List Sg)):Prop:=∃ E,ex=.returned (.int .i64 E)/\iU eps f n L E
def kT (L:List (List Sg)):Prop:=L.length<=2000000/\∀ i,i<L.length->(L.getD i []).length<=2000000
theorem cU.short {eps:Int}:∀ {L:List (List Sg)} {f:Nat->Int} {n:Nat},n<=2000000->(∀ t,t<n->0<=f t/\f t<18446744073709551616)->Up f n->cU eps f n L->∀ i,i<L.length->(L.getD i []).length<=n:=by
  intro L;induction L with
  | nil=>intro f n _ _ _ _ i hi;simp at hi
  | cons l r ih =>
    intro f n n1 bd u h i hi;obtain ⟨a,b,c⟩:=h;have ln:=b.len n1 bd;cases i with
    | zero=>show l.length<=n;omega
    | succ i =>
      by_cases q:l.length=1
      · rw [if_pos q] at c;subst c;simp at hi
      · rw [if_neg q] at c
        obtain ⟨u1,_,u3⟩:=nJ u (b.tiles n1 bd) (b.keys n1 bd);have:=ih (by omega) (yS bd u3) u1 c i (by simpa using hi)
        show (r.getD i []).length<=n;omega
end Go.Proofs.YtklkpldicbkjeaaGreat
namespace Go.Proofs.YtklkpldicbkjeaaGreat
open Go.RowKit
attribute [local go_sem] fZ
def cI (s:Sg):List Value:=[.int .u64 s.k,.float .f64 s.sl,.float .f64 s.ic,.int .i64 s.fr,.int .i64 s.te]
theorem yW:∀ (l:List Sg) (i:Nat),i<l.length->∀ j,j<5->(l.flatMap cI)[i*5+j]?=(cI (l.getD i az))[j]?:=by
  intro l;induction l with
  | nil=>intro i hi;simp at hi
  | cons s l ih =>
    intro i hi j hj;rw [List.flatMap_cons];have l5:(cI s).length=5:=rfl;cases i with
    | zero =>
      rw [Nat.zero_mul,Nat.zero_add,List.getElem?_append_left (by rw [l5];exact hj)]
      rfl
    | succ i =>
      rw [List.getElem?_append_right (by rw [l5];omega),l5,show (i+1)*5+j-5=i*5+j by omega]
      exact ih i (by simpa using hi) j hj
end Go.Proofs.YtklkpldicbkjeaaGreat
