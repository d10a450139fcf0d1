/- Levels of segments, in plain words: heights, a level of stretches, what Check tells, what Build makes, and what follows. No Go in it. -/
import Derived.Test.YtemijdhemdhclaaGreatWPFg
set_option linter.unusedVariables false
namespace Go.Proofs.YtemijdhemdhclaaGreat
def mh (e:Nat):Nat->Nat->Nat
  | 0,_=>0
  | g+1,n=>if n<1 then 0 else if n<=2*e-1 then 1 else mh e g (n/e+1)+1
theorem div_less {e n:Nat} (he:2<=e) (hn:¬ n<=2*e-1):n/e+1<n:=by
  have h1:n/e*e<=n:=Nat.div_mul_le_self n e;have h2:n/e*2<=n/e*e:=Nat.mul_le_mul_left _ he;omega
theorem mh_fuel {e:Nat} (he:2<=e):∀ g g' n,n<=g->n<=g'->mh e g n=mh e g' n:=by
  intro g;induction g with
  | zero =>
    intro g' n h h';cases g' with
    | zero=>rfl
    | succ g' =>
                 have:n<1:=by omega
                 show 0=if n<1 then 0 else _
                 rw [if_pos this]
  | succ g ih =>
    intro g' n h h';cases g' with
    | zero =>
              have:n<1:=by omega
              show (if n<1 then 0 else _)=0
              rw [if_pos this]
    | succ g' =>
      show (if n<1 then 0 else if n<=2*e-1 then 1 else mh e g (n/e+1)+1)=(if n<1 then 0 else if n<=2*e-1 then 1 else mh e g' (n/e+1)+1)
      by_cases h1:n<1
      · rw [if_pos h1,if_pos h1]
      · rw [if_neg h1,if_neg h1]
        by_cases h2:n<=2*e-1
        · rw [if_pos h2,if_pos h2]
        · rw [if_neg h2,if_neg h2]
          have:=div_less he h2
          rw [ih g' (n/e+1) (by omega) (by omega)]
def hgt (e n:Nat):Nat:=mh e n n
theorem hgt_zero (e:Nat):hgt e 0=0:=rfl
theorem hgt_one {e n:Nat} (h0:0<n) (h:n<=2*e-1):hgt e n=1:=by
  cases n with
  | zero=>omega
  | succ n =>
              show (if n+1<1 then 0 else if n+1<=2*e-1 then 1 else _)=1
              rw [if_neg (by omega),if_pos h]
theorem hgt_more {e n:Nat} (he:2<=e) (h:¬ n<=2*e-1):hgt e n=hgt e (n/e+1)+1:=by
  have d:=div_less he h;cases n with
  | zero=>omega
  | succ n =>
    show (if n+1<1 then 0 else if n+1<=2*e-1 then 1 else mh e n ((n+1)/e+1)+1)=_
    rw [if_neg (by omega),if_neg h]
    unfold hgt;rw [mh_fuel he n ((n+1)/e+1) ((n+1)/e+1) (by omega) (Nat.le_refl _)]
theorem hgt_pos {e n:Nat} (he:2<=e) (h:0<n):0<hgt e n:=by
  by_cases k:n<=2*e-1
  · rw [hgt_one h k];exact Nat.one_pos
  · rw [hgt_more he k];omega
theorem hgt_mono {e:Nat} (he:2<=e):∀ m n,n<=m->hgt e n<=hgt e m:=by
  intro m;induction m using Nat.strongRecOn with
  | ind m ih =>
    intro n h;by_cases h0:n=0
    · subst h0;rw [hgt_zero];exact Nat.zero_le _
    · by_cases h1:n<=2*e-1
      · rw [hgt_one (by omega) h1];exact hgt_pos he (by omega)
      · have h2:¬ m<=2*e-1:=by omega
        rw [hgt_more he h1,hgt_more he h2];have:=ih (m/e+1) (div_less he h2) (n/e+1) (by have:=Nat.div_le_div_right (c:=e) h;omega)
        omega
structure Sg where
  k:Int
  sl:Nat
  ic:Nat
  fr:Int
  te:Int
def sg0:Sg:=⟨0,0,0,0,0⟩
def fst8 (l:List Sg) (i:Nat):Int:=(l.getD i sg0).k
def SegAt (eps:Int) (f:Nat->Int) (i j:Nat) (s:Sg):Prop:=SegR eps i (sh f i) (j-i) s.k s.sl s.ic s.fr s.te 0
structure SegFacts (eps:Int) (f:Nat->Int) (i j:Nat) (s:Sg):Prop where
  k:s.k=f i
  fr:s.fr=i
  te:s.te=j
  er:errM s.sl s.ic s.fr s.te=0
  off:worst (away s.k s.sl s.ic s.fr s.te (sh f i)) (j-i)<=eps
theorem SegAt.facts {eps:Int} {f:Nat->Int} {i j n:Nat} {s:Sg} (h:SegAt eps f i j s) (hj:i<j) (hn:j<=n) (n1:n<=2000000) (bd:∀ t,t<n->0<=f t/\f t<18446744073709551616):SegFacts eps f i j s:=by
  rcases h with ⟨a,b,c,o,ne,_⟩ | ⟨a,b,c,o,nb,_,_,_,_,_,q⟩ | ⟨a,b,c,o,nb,ab,hs,hk,hi,hF,hT,_⟩
  · exact absurd rfl ne
  · cases q
  · have bd':∀ t,t<j-i->0<=sh f i t/\sh f i t<18446744073709551616:=fun t ht=>bd (i+t) (by omega)
    obtain ⟨er,aw⟩:=seg_bound o (by omega) bd' ab.1 ab.2 nb.1 nb.2 hs
    have e1:2<=eps:=by
      rcases o.cases with ⟨q,_⟩ | ⟨_,q⟩
      · exact absurd rfl q
      · exact q.e1
    have hk':s.k=f i:=hk;refine ⟨hk',hF,?_,?_,?_⟩
    · rw [hT];omega
    · rw [hi,hF,hT];exact er
    · rw [hk,hi,hF,hT];exact worst_le (by omega) _ aw
def LvlAt (eps:Int) (f:Nat->Int) (n:Nat):Nat->List Sg->Prop
  | i,[]=>i=n
  | i,s::l=>∃ j,(i<j/\j<=n/\FitsOn (eps-1) (sh f i) (Prs (j-i))/\(j<n->¬ FitsOn (eps-1) (sh f i) (Prs (j+1-i))))/\SegAt eps f i j s/\LvlAt eps f n j l
theorem LvlAt.ends {eps:Int} {f:Nat->Int} {n:Nat} (n1:n<=2000000) (bd:∀ t,t<n->0<=f t/\f t<18446744073709551616):∀ {i:Nat} {l:List Sg},LvlAt eps f n i l->EndsAt (eps-1) f n i (l.map fun s=>s.te.toNat):=by
  intro i l;induction l generalizing i with
  | nil=>exact fun h=>h
  | cons s l ih =>
    rintro ⟨j,⟨a,b,c,d⟩,g,r⟩;have F:=g.facts a b n1 bd;have e:s.te.toNat=j:=by rw [F.te];omega
    show EndsAt (eps-1) f n i (s.te.toNat::l.map fun s=>s.te.toNat)
    rw [e];exact ⟨a,b,c,d,ih r⟩
def tileB (n:Nat):Nat->List Sg->Bool
  | a,[]=>decide (a=n)
  | a,s::l=>decide (s.fr=a)&&decide ((a:Int)<s.te)&&decide (s.te<=n)&&tileB n s.te.toNat l
theorem tileB_cons {n a:Nat} {s:Sg} {l:List Sg}:tileB n a (s::l)=true↔s.fr=a/\(a:Int)<s.te/\s.te<=n/\tileB n s.te.toNat l=true:=by
  simp [tileB,and_assoc]
theorem tileB_nil {n a:Nat}:tileB n a []=true↔a=n:=by simp [tileB]
theorem LvlAt.tiles {eps:Int} {f:Nat->Int} {n:Nat} (n1:n<=2000000) (bd:∀ t,t<n->0<=f t/\f t<18446744073709551616):∀ {i:Nat} {l:List Sg},LvlAt eps f n i l->tileB n i l=true:=by
  intro i l;induction l generalizing i with
  | nil=>exact fun h=>tileB_nil.2 h
  | cons s l ih =>
    rintro ⟨j,⟨a,b,c,d⟩,g,r⟩;have F:=g.facts a b n1 bd;have e:s.te.toNat=j:=by rw [F.te];omega
    refine tileB_cons.2 ⟨F.fr,by rw [F.te];omega,by rw [F.te];omega,?_⟩
    rw [e];exact ih r
def segE (eps:Int) (f:Nat->Int) (s:Sg):Int :=
  if errM s.sl s.ic s.fr s.te≠0 then errM s.sl s.ic s.fr s.te else if s.k≠f s.fr.toNat then 83 else if eps<worst (away s.k s.sl s.ic s.fr s.te (sh f s.fr.toNat)) (s.te-s.fr).toNat then 85 else 0
theorem segE_ok {eps:Int} {f:Nat->Int} {s:Sg}:segE eps f s=0↔errM s.sl s.ic s.fr s.te=0/\s.k=f s.fr.toNat/\worst (away s.k s.sl s.ic s.fr s.te (sh f s.fr.toNat)) (s.te-s.fr).toNat<=eps:=by
  unfold segE;by_cases h:errM s.sl s.ic s.fr s.te=0
  · rw [if_neg (fun q=>q h)]
    by_cases h1:s.k=f s.fr.toNat
    · rw [if_neg (fun q=>q h1)]
      by_cases h2:eps<worst (away s.k s.sl s.ic s.fr s.te (sh f s.fr.toNat)) (s.te-s.fr).toNat
      · rw [if_pos h2];constructor
        · intro q;cases q
        · rintro ⟨_,_,q⟩;omega
      · rw [if_neg h2];exact ⟨fun _=>⟨h,h1,by omega⟩,fun _=>rfl⟩
    · rw [if_pos h1];constructor
      · intro q;cases q
      · rintro ⟨_,q,_⟩;exact absurd q h1
  · rw [if_pos h];constructor
    · intro q;exact absurd q h
    · rintro ⟨q,_⟩;exact absurd q h
def lvlE (eps:Int) (f:Nat->Int):List Sg->Int
  | []=>0
  | s::l=>if segE eps f s≠0 then segE eps f s else lvlE eps f l
theorem lvlE_ok {eps:Int} {f:Nat->Int} {l:List Sg}:lvlE eps f l=0↔∀ s∈l,segE eps f s=0:=by
  induction l with
  | nil=>simp [lvlE]
  | cons s l ih =>
    unfold lvlE;by_cases h:segE eps f s=0
    · rw [if_neg (fun q=>q h),ih];simp [h]
    · rw [if_pos h];constructor
      · intro q;exact absurd q h
      · intro q;exact absurd (q s (by simp)) h
theorem LvlAt.right {eps:Int} {f:Nat->Int} {n:Nat} (n1:n<=2000000) (bd:∀ t,t<n->0<=f t/\f t<18446744073709551616):∀ {i:Nat} {l:List Sg},LvlAt eps f n i l->∀ s∈l,segE eps f s=0:=by
  intro i l;induction l generalizing i with
  | nil=>intro _ s hs;cases hs
  | cons s l ih =>
    rintro ⟨j,⟨a,b,c,d⟩,g,r⟩ s' hs';rcases List.mem_cons.1 hs' with rfl | q
    · have F:=g.facts a b n1 bd
      have e:s'.fr.toNat=i:=by rw [F.fr];omega
      refine segE_ok.2 ⟨F.er,by rw [e];exact F.k,?_⟩
      rw [e,show (s'.te-s'.fr).toNat=j-i by rw [F.te,F.fr];omega]
      exact F.off
    · exact ih r s' q
def chkE (eps:Int):(Nat->Int)->Nat->List (List Sg)->Int
  | _,_,[]=>0
  | f,n,l::r=>if (tileB n 0 l&&!l.isEmpty)=false then 82 else if lvlE eps f l≠0 then lvlE eps f l else if r=[] then (if l.length=1 then 0 else 84) else chkE eps (fst8 l) l.length r
def BuildR (eps:Int):(Nat->Int)->Nat->List (List Sg)->Prop
  | _,n,[]=>n=0
  | f,n,l::r=>0<n/\LvlAt eps f n 0 l/\(if l.length=1 then r=[] else BuildR eps (fst8 l) l.length r)
theorem fst8_up {f:Nat->Int} {n:Nat} (u:Up f n):∀ {l:List Sg} {a:Nat},tileB n a l=true->(∀ s∈l,s.k=f s.fr.toNat)->Up (fst8 l) l.length/\(l≠[]->fst8 l 0=f a/\a<n)/\∀ t,t<l.length->∃ i,a<=i/\i<n/\fst8 l t=f i:=by
  intro l;induction l with
  | nil=>intro a h _;exact ⟨fun j hj=>by simp at hj,fun q=>absurd rfl q,fun t ht=>by simp at ht⟩
  | cons s l ih =>
    intro a h hk;obtain ⟨h1,h2,h3,h4⟩:=tileB_cons.1 h;obtain ⟨u1,u2,u3⟩:=ih h4 (fun s hs=>hk s (List.mem_cons_of_mem _ hs))
    have k0:s.k=f a:=by rw [hk s (by simp),h1];congr 1
    have an:a<n:=by omega
    refine ⟨fun j hj=>?_,fun _=>⟨k0,an⟩,fun t ht=>?_⟩
    · cases j with
      | zero =>
        have ne:l≠[]:=fun q=>by subst q;simp at hj
        obtain ⟨e,lt⟩:=u2 ne;show s.k<fst8 l 0;rw [k0,e];exact u.lt (by omega) lt
      | succ j=>exact u1 j (by simpa using hj)
    · cases t with
      | zero=>exact ⟨a,Nat.le_refl _,an,k0⟩
      | succ t=>obtain ⟨i,i1,i2,i3⟩:=u3 t (by simpa using ht);exact ⟨i,by omega,i2,i3⟩
theorem LvlAt.keys {eps:Int} {f:Nat->Int} {n:Nat} (n1:n<=2000000) (bd:∀ t,t<n->0<=f t/\f t<18446744073709551616) {i:Nat} {l:List Sg} (h:LvlAt eps f n i l):∀ s∈l,s.k=f s.fr.toNat:=fun s hs=>(segE_ok.1 (h.right n1 bd s hs)).2.1
theorem fst8_bd {f:Nat->Int} {n:Nat} {l:List Sg} (bd:∀ t,t<n->0<=f t/\f t<18446744073709551616) (h:∀ t,t<l.length->∃ i,0<=i/\i<n/\fst8 l t=f i):∀ t,t<l.length->0<=fst8 l t/\fst8 l t<18446744073709551616:=by
  intro t ht;obtain ⟨i,_,i2,i3⟩:=h t ht;rw [i3];exact bd i i2
theorem LvlAt.len {eps:Int} {f:Nat->Int} {n:Nat} (n1:n<=2000000) (bd:∀ t,t<n->0<=f t/\f t<18446744073709551616) {i:Nat} {l:List Sg} (h:LvlAt eps f n i l):i+l.length<=n:=by
  have:=(h.ends n1 bd).len
  simpa using this
theorem LvlAt.some {eps:Int} {f:Nat->Int} {n:Nat} {i:Nat} {l:List Sg} (h:LvlAt eps f n i l) (hi:i<n):l≠[]:=by
  rintro rfl;have:i=n:=h;omega
theorem BuildR.chk {eps:Int}:∀ {L:List (List Sg)} {f:Nat->Int} {n:Nat},n<=2000000->(∀ t,t<n->0<=f t/\f t<18446744073709551616)->Up f n->BuildR eps f n L->chkE eps f n L=0:=by
  intro L;induction L with
  | nil=>intro f n _ _ _ _;rfl
  | cons l r ih =>
    intro f n n1 bd u h;obtain ⟨a,b,c⟩:=h;have tl:=b.tiles n1 bd;have ne:=b.some a;have rt:=lvlE_ok.2 (b.right n1 bd);show (if (tileB n 0 l&&!l.isEmpty)=false then 82 else if lvlE eps f l≠0 then lvlE eps f l else if r=[] then (if l.length=1 then 0 else 84) else chkE eps (fst8 l) l.length r)=0
    rw [if_neg (by rw [tl];simp [ne]),if_neg (fun q=>q rt)]
    by_cases q:l.length=1
    · rw [if_pos q] at c
      rw [if_pos c,if_pos q]
    · rw [if_neg q] at c
      have r0:r≠[]:=by
        rintro rfl;have:l.length=0:=c;exact ne (List.eq_nil_of_length_eq_zero this)
      rw [if_neg r0];obtain ⟨u1,_,u3⟩:=fst8_up u tl (b.keys n1 bd);have:=b.len n1 bd;exact ih (by omega) (fst8_bd bd u3) u1 c
theorem LvlAt.count {eps:Int} (e1:2<=eps) {f:Nat->Int} {n:Nat} (n0:0<n) (n1:n<=2000000) (bd:∀ t,t<n->0<=f t/\f t<18446744073709551616) (u:Up f n) {l:List Sg} (h:LvlAt eps f n 0 l):((l.length:Int)-1)*(2*eps-1)+1<=n:=by
  have:=(h.ends n1 bd).count (by omega) u n0
  rw [List.length_map,show 2*(eps-1)+1=2*eps-1 by omega] at this
  simpa using this
theorem LvlAt.few {eps:Int} (e1:2<=eps) {f:Nat->Int} {n:Nat} (n0:0<n) (n1:n<=2000000) (bd:∀ t,t<n->0<=f t/\f t<18446744073709551616) (u:Up f n) {l:List Sg} (h:LvlAt eps f n 0 l):l.length<=n/eps.toNat+1/\(l.length≠1->¬ n<=2*eps.toNat-1):=by
  have c:=h.count e1 n0 n1 bd u;have l0:0<l.length:=List.length_pos_iff.2 (h.some n0);obtain ⟨e,he⟩:∃ e:Nat,eps=e:=⟨eps.toNat,by omega⟩
  subst he;obtain ⟨m,hm⟩:∃ m,l.length=m+1:=⟨l.length-1,by omega⟩
  rw [hm] at c ⊢;rw [show ((m+1:Nat):Int)-1=m by omega] at c
  rw [Int.toNat_natCast];have c':m*(2*e-1)+1<=n:=by
    have:((m*(2*e-1)+1:Nat):Int)<=n:=by
      rw [Int.natCast_add,Int.natCast_mul,show ((2*e-1:Nat):Int)=2*(e:Int)-1 by omega]
      exact c
    omega
  refine ⟨?_,fun q=>?_⟩
  · have:m<=n/e:=by
      rw [Nat.le_div_iff_mul_le (by omega)]
      have:m*e<=m*(2*e-1):=Nat.mul_le_mul_left _ (by omega)
      omega
    omega
  · have m1:1<=m:=by omega
    have:1*(2*e-1)<=m*(2*e-1):=Nat.mul_le_mul_right _ m1
    omega
theorem BuildR.low {eps:Int} (e1:2<=eps):∀ {L:List (List Sg)} {f:Nat->Int} {n:Nat},n<=2000000->(∀ t,t<n->0<=f t/\f t<18446744073709551616)->Up f n->BuildR eps f n L->L.length<=hgt eps.toNat n:=by
  intro L;induction L with
  | nil=>intro f n _ _ _ _;exact Nat.zero_le _
  | cons l r ih =>
    intro f n n1 bd u h;obtain ⟨a,b,c⟩:=h;have e2:2<=eps.toNat:=by omega
    by_cases q:l.length=1
    · rw [if_pos q] at c
      subst c;exact hgt_pos e2 a
    · rw [if_neg q] at c
      obtain ⟨k1,k2⟩:=b.few e1 a n1 bd u;obtain ⟨u1,_,u3⟩:=fst8_up u (b.tiles n1 bd) (b.keys n1 bd);have ln:=b.len n1 bd;have:=ih (by omega) (fst8_bd bd u3) u1 c
      rw [hgt_more e2 (k2 q)];have:=hgt_mono e2 _ _ k1;simp only [List.length_cons];omega
theorem BuildR.none {eps:Int} {f:Nat->Int} {n:Nat} {L:List (List Sg)} (h:BuildR eps f n L):L=[]↔n=0:=by
  cases L with
  | nil=>exact ⟨fun _=>h,fun _=>rfl⟩
  | cons l r=>exact ⟨(fun q=>by cases q),fun q=>by have:=h.1;omega⟩
def mv (B:Int) (s:Sg):Sg:=⟨s.k+B,s.sl,s.ic,s.fr,s.te⟩
theorem cntb_is {f:Nat->Int} {n:Nat} (u:Up f n) (q:Int) (c:Nat) (hc:c<=n) (hl:∀ i,i<c->f i<q) (hr:∀ i,c<=i->i<n->q<=f i):cntb f q n=c:=by
  obtain ⟨a,b⟩:=cntb_up u q n (Nat.le_refl _);have le:=cntb_le f q n;rcases Nat.lt_trichotomy (cntb f q n) c with h | h | h
  · have:=hl _ h;have:=b _ (Nat.le_refl _) (by omega);omega
  · exact h
  · have:=a c h;have:=hr c (Nat.le_refl _) (by omega);omega
theorem tile_at {n:Nat}:∀ {l:List Sg} {a:Nat},tileB n a l=true->∀ t,t<l.length->(a:Int)<=(l.getD t sg0).fr/\(l.getD t sg0).fr<(l.getD t sg0).te/\(l.getD t sg0).te<=n/\(t=0->(l.getD t sg0).fr=a)/\(t+1<l.length->(l.getD (t+1) sg0).fr=(l.getD t sg0).te)/\(t+1=l.length->(l.getD t sg0).te=n):=by
  intro l;induction l with
  | nil=>intro a _ t ht;simp at ht
  | cons s l ih =>
    intro a h t ht;obtain ⟨h1,h2,h3,h4⟩:=tileB_cons.1 h;cases t with
    | zero =>
      refine ⟨by show (a:Int)<=s.fr;omega,by show s.fr<s.te;omega,h3,fun _=>h1,fun q=>?_,fun q=>?_⟩
      · have:=(ih h4 0 (by simpa using q)).2.2.2.1 rfl
        show (l.getD 0 sg0).fr=s.te;omega
      · have:l=[]:=by simpa using q
        subst this;have:=tileB_nil.1 h4;show s.te=n;omega
    | succ t =>
      obtain ⟨q1,q2,q3,q4,q5,q6⟩:=ih h4 t (by simpa using ht)
      refine ⟨?_,q2,q3,fun q=>(by cases q),fun q=>q5 (by simpa using q),fun q=>q6 (by simpa using q)⟩
      show (a:Int)<=(l.getD t sg0).fr;omega
theorem near_lvl {eps:Int} {f:Nat->Int} {n:Nat} {l:List Sg} (u:Up f n) (bd:∀ t,t<n->0<=f t/\f t<18446744073709551616) (tl:tileB n 0 l=true) (ok:∀ s∈l,segE eps f s=0) (q:Int) (q1:q<18446744073709551616) (t:Nat) (ht:t<l.length) (pick:t=0\/fst8 l t<=q) (last:∀ t',t<t'->t'<l.length->q<fst8 l t') (s:Sg) (hs:l.getD t sg0=s) :
    (-(eps+1)<=guessV s.k s.sl s.ic s.fr s.te q-cntb f q n/\guessV s.k s.sl s.ic s.fr s.te q-cntb f q n<=eps+1)/\((∃ i,i<n/\f i=q)->-eps<=guessV s.k s.sl s.ic s.fr s.te q-cntb f q n/\guessV s.k s.sl s.ic s.fr s.te q-cntb f q n<=eps):=by
  have T:=tile_at tl t ht;have mem:s∈l:=by
    rw [<-hs,List.getD_eq_getElem?_getD,List.getElem?_eq_getElem ht];exact List.getElem_mem ht
  obtain ⟨er,hk,off⟩:=segE_ok.1 (ok s mem);rw [hs] at T;obtain ⟨T1,T2,T3,T4,T5,T6⟩:=T;obtain ⟨a,ha⟩:∃ a:Nat,s.fr=a:=⟨s.fr.toNat,by omega⟩
  obtain ⟨b,hb⟩:∃ b:Nat,s.te=b:=⟨s.te.toNat,by omega⟩
  have ab:a<b:=by omega
  have bn:b<=n:=by omega
  have ha':s.fr.toNat=a:=by omega
  rw [ha'] at hk off;rw [show (s.te-s.fr).toNat=b-a by omega] at off
  have sbd:∀ i,i<b-a->0<=sh f a i/\sh f a i<18446744073709551616:=fun i hi=>bd (a+i) (by omega)
  have su:Up (sh f a) (b-a):=sh_up u bn;have k0:0<=s.k:=by rw [hk];exact (bd a (by omega)).1
  obtain ⟨w0,w1⟩:=worst_in (away s.k s.sl s.ic s.fr s.te (sh f a)) (b-a);generalize worst (away s.k s.sl s.ic s.fr s.te (sh f a)) (b-a)=N at off w0 w1;have beh:∀ i,b<=i->i<n->q<f i:=fun i h1 h2=>by
    by_cases c:t+1<l.length
    · have e:=T5 c
      have m':l.getD (t+1) sg0∈l:=by
        rw [List.getD_eq_getElem?_getD,List.getElem?_eq_getElem c];exact List.getElem_mem c
      have k':=(segE_ok.1 (ok _ m')).2.1;have lt:=last (t+1) (by omega) c
      have e2:fst8 l (t+1)=f b:=by
        show (l.getD (t+1) sg0).k=f b;rw [k',e];congr 1;omega
      rw [e2] at lt;have:=u.le h1 h2;omega
    · have:=T6 (by omega)
      omega
  by_cases c:s.k<=q
  ·
    have P:=probe_off er (show ((b-a:Nat):Int)=s.te-s.fr by omega) (show sh f a 0=s.k from hk.symm) su sbd w0 w1 q q1 c
    have le:=cntb_le (sh f a) q (b-a);obtain ⟨c1,c2⟩:=cntb_up su q (b-a) (Nat.le_refl _);have cn:cntb f q n=a+cntb (sh f a) q (b-a):=by
      refine cntb_is u q _ (by omega) (fun i hi=>?_) (fun i h1 h2=>?_)
      · by_cases x:i<a
        · have:=u.lt x (show a<n by omega)
          omega
        · have:=c1 (i-a) (by omega)
          have e:sh f a (i-a)=f i:=by show f (a+(i-a))=f i;rw [show a+(i-a)=i by omega]
          rw [e] at this;exact this
      · by_cases x:i<b
        · have:=c2 (i-a) (by omega) (by omega)
          have e:sh f a (i-a)=f i:=by show f (a+(i-a))=f i;rw [show a+(i-a)=i by omega]
          rw [e] at this;exact this
        · have:=beh i (by omega) h2;omega
    rw [cn];refine ⟨by omega,?_⟩
    rintro ⟨i,hi,hq⟩;have ia:a<=i:=by
      rcases Nat.lt_or_ge i a with x | x
      · have:=u.lt x (show a<n by omega);omega
      · exact x
    have ib:i<b:=by
      rcases Nat.lt_or_ge i b with x | x
      · exact x
      · have:=beh i x hi;omega
    have e:sh f a (i-a)=q:=by show f (a+(i-a))=q;rw [show a+(i-a)=i by omega];exact hq
    have cc:cntb (sh f a) q (b-a)=i-a:=by
      refine cntb_is su q _ (by omega) (fun j hj=>?_) (fun j h1 h2=>?_)
      · rw [<-e];exact su.lt hj (by omega)
      · rw [<-e];exact su.le h1 h2
    have W:=w1 (i-a) (by omega)
    unfold away at W;rw [e] at W;rw [cc];omega
  ·
    have t0:t=0:=by
      rcases pick with x | x
      · exact x
      · have:fst8 l t=s.k:=by show (l.getD t sg0).k=s.k;rw [hs]
        omega
    have a0:a=0:=by have:=T4 t0;omega
    have n0:0<n:=by omega
    have all:∀ i,i<n->q<f i:=fun i hi=>by
      have:=u.le (Nat.zero_le i) hi
      rw [a0] at hk;omega
    have cn:cntb f q n=0:=cntb_is u q 0 (Nat.zero_le _) (fun i hi=>by omega) (fun i _ hi=>by have:=all i hi;omega)
    rw [cn,guess_before _ _ _ _ _ _ (by omega)]
    have W:=w1 0 (by omega)
    unfold away at W;have e:sh f a 0=s.k:=hk.symm;rw [e] at W;refine ⟨by omega,?_⟩
    rintro ⟨i,hi,hq⟩;have:=all i hi;omega
def tileC (n:Nat):Int->List Sg->Bool
  | a,[]=>decide (a=n)
  | a,s::l=>decide (s.fr=a)&&decide (a<s.te)&&tileC n s.te l
theorem tileC_le {n:Nat}:∀ {l:List Sg} {a:Int},tileC n a l=true->a<=n:=by
  intro l;induction l with
  | nil =>
           intro a h;have:a=n:=by simpa [tileC] using h
           omega
  | cons s l ih =>
    intro a h;have h':(s.fr=a/\a<s.te)/\tileC n s.te l=true:=by simpa [tileC] using h
    have:=ih h'.2
    omega
theorem tileC_eq {n:Nat}:∀ (l:List Sg) (a:Nat),tileC n a l=tileB n a l:=by
  intro l;induction l with
  | nil =>
           intro a;show decide ((a:Int)=n)=decide (a=n);by_cases h:a=n
           · simp [h]
           · rw [decide_eq_false (by omega),decide_eq_false h]
  | cons s l ih =>
    intro a;have e:tileC n a (s::l)=true↔tileB n a (s::l)=true:=by
      rw [tileB_cons];have u:tileC n a (s::l)=true↔(s.fr=a/\(a:Int)<s.te)/\tileC n s.te l=true:=by simp [tileC]
      rw [u];constructor
      · rintro ⟨⟨h1,h2⟩,h3⟩
        have le:=tileC_le h3;obtain ⟨t,ht⟩:∃ t:Nat,s.te=t:=⟨s.te.toNat,by omega⟩
        rw [ht] at h3 ⊢;rw [ht] at h2 le;rw [Int.toNat_natCast];exact ⟨h1,h2,le,by rw [<-ih t];exact h3⟩
      · rintro ⟨h1,h2,h3,h4⟩
        obtain ⟨t,ht⟩:∃ t:Nat,s.te=t:=⟨s.te.toNat,by omega⟩
        rw [ht,Int.toNat_natCast] at h4;rw [ht] at h2 ⊢;exact ⟨⟨h1,h2⟩,by rw [ih t];exact h4⟩
    cases h1:tileC n a (s::l) with
    | true=>exact (e.1 h1).symm
    | false =>
      cases h2:tileB n a (s::l) with
      | false=>rfl
      | true=>have:=e.2 h2;rw [h1] at this;cases this
theorem tileC_cons {n:Nat} {a:Int} {s:Sg} {l:List Sg}:tileC n a (s::l)=(decide (s.fr=a)&&decide (a<s.te)&&tileC n s.te l):=rfl
open Go.RowKit
structure SgAt (w:World) (b off:Nat) (s:Sg):Prop where
  c0:w.cell? ⟨b,off,none⟩=some (.int .u64 s.k)
  c1:w.cell? ⟨b,off+1,none⟩=some (.float .f64 s.sl)
  c2:w.cell? ⟨b,off+2,none⟩=some (.float .f64 s.ic)
  c3:w.cell? ⟨b,off+3,none⟩=some (.int .i64 s.fr)
  c4:w.cell? ⟨b,off+4,none⟩=some (.int .i64 s.te)
theorem SgAt.gw {w w':World} {b off:Nat} {s:Sg} (h:SgAt w b off s) (hb:b<w.heap.size) (g:Gw w w'):SgAt w' b off s :=
  ⟨(g.cell _ _ hb).trans h.c0,(g.cell _ _ hb).trans h.c1,(g.cell _ _ hb).trans h.c2,(g.cell _ _ hb).trans h.c3,(g.cell _ _ hb).trans h.c4⟩
abbrev Sg.ok (s:Sg):Prop:=SegOk s.k s.sl s.ic s.fr s.te
abbrev sgV (s:Sg):Value:=segV s.k s.sl s.ic s.fr s.te
structure GS (w:World) (ao:Option Addr) (l:List Sg):Prop where
  cells:0<l.length->∃ b off,ao=some ⟨b,off,none⟩/\b<w.heap.size/\∀ i,i<l.length->SgAt w b (off+i*5) (l.getD i sg0)
  ok:∀ i,i<l.length->(l.getD i sg0).ok
theorem GS.gw {w w':World} {ao:Option Addr} {l:List Sg} (h:GS w ao l) (g:Gw w w'):GS w' ao l :=
  ⟨fun h0=>by
    obtain ⟨b,off,e,hb,hc⟩:=h.cells h0;exact ⟨b,off,e,Nat.lt_of_lt_of_le hb g.size,fun i hi=>(hc i hi).gw hb g⟩,h.ok⟩
structure VS (w:World) (ao:Option Addr) (L:List (List Sg)):Prop where
  cells:0<L.length->∃ b off,ao=some ⟨b,off,none⟩/\b<w.heap.size/\∀ i,i<L.length->∃ bo c,w.cell? ⟨b,off+i,none⟩=some (.slice bo (L.getD i []).length c)/\(L.getD i []).length<=c/\(bo=none->(L.getD i []).length=0/\c=0)/\GS w bo (L.getD i [])
theorem VS.gw {w w':World} {ao:Option Addr} {L:List (List Sg)} (h:VS w ao L) (g:Gw w w'):VS w' ao L :=
  ⟨fun h0=>by
    obtain ⟨b,off,e,hb,hc⟩:=h.cells h0;refine ⟨b,off,e,Nat.lt_of_lt_of_le hb g.size,fun i hi=>?_⟩
    obtain ⟨bo,c,h1,h2,h3,h4⟩:=hc i hi;exact ⟨bo,c,(g.cell _ _ hb).trans h1,h2,h3,h4.gw g⟩⟩
theorem fst8_ok {w:World} {ao:Option Addr} {l:List Sg} (h:GS w ao l):∀ t,t<l.length->0<=fst8 l t/\fst8 l t<18446744073709551616:=fun t ht=>⟨(h.ok t ht).k0,(h.ok t ht).k1⟩
theorem drop_at {l:List Sg} {i:Nat} (h:i<l.length):l.drop i=l.getD i sg0::l.drop (i+1):=by
  rw [List.drop_eq_getElem_cons h,List.getD_eq_getElem?_getD,List.getElem?_eq_getElem h];rfl
def mxh (n eps:Int):Int:=if 2<=eps/\eps<=64/\1<=n then (hgt eps.toNat n.toNat:Nat) else 0
theorem hgt_le {e:Nat} (he:2<=e):∀ n,hgt e n<=n:=by
  intro n;induction n using Nat.strongRecOn with
  | ind n ih =>
    by_cases h0:n=0
    · subst h0;exact Nat.le_refl _
    · by_cases h1:n<=2*e-1
      · rw [hgt_one (by omega) h1];omega
      · rw [hgt_more he h1]
        have:=ih _ (div_less he h1)
        have:=div_less he h1
        omega
end Go.Proofs.YtemijdhemdhclaaGreat
