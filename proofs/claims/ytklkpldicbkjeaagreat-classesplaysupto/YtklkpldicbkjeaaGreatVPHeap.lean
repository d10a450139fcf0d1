/- Heads of lists in a heap: plain words. No Go in it. -/
import Derived.Test.YtklkpldicbkjeaaGreatVGPlain
set_option linter.unusedVariables false
namespace Go.Proofs.YtklkpldicbkjeaaGreat
structure aB (α:Type) where
 b:Nat
 off:Nat
 c:Nat
 l:List α
structure Hd (α:Type) where
 k:Int
 i:Nat
 s:aB α
def zL {α:Type}:Hd α:=⟨0,0,⟨0,0,0,[]⟩⟩
section
variable {α:Type}
def Hd.lt (a b:Hd α):Prop:=a.k<b.k\/a.k=b.k/\a.i<b.i
def iq (a b:Hd α):Bool:=decide (a.k<b.k)||(decide (a.k=b.k)&&decide (a.i<b.i))
theorem zM {a b:Hd α}:iq a b=true↔a.lt b:=by simp [iq,Hd.lt]
theorem Ea {a b:Hd α}:iq a b=false↔¬ a.lt b:=by rw [<-zM];simp
theorem Hd.lt.asymm {a b:Hd α} (h:a.lt b):¬ b.lt a:=by simp only [Hd.lt] at *;omega
theorem Hd.nlt_trans {a b c:Hd α} (h:¬ a.lt b) (k:¬ b.lt c):¬ a.lt c:=by simp only [Hd.lt] at *;omega
theorem Hd.nlt_lt {a b c:Hd α} (h:¬ a.lt b) (k:c.lt b):¬ a.lt c:=by simp only [Hd.lt] at *;omega
def gt (H:List (Hd α)) (i:Nat):Hd α:=H.getD i zL
def bK (H:List (Hd α)):Prop:=∀ i,0<i->i<H.length->¬ (gt H i).lt (gt H ((i-1)/2))
def lD (H:List (Hd α)) (a:Nat):Prop:=(∀ i,0<i->i<H.length->i≠a->¬ (gt H i).lt (gt H ((i-1)/2)))/\(∀ c,0<c->c<H.length->(c-1)/2=a->0<a->¬ (gt H c).lt (gt H ((a-1)/2)))
def nZ (H:List (Hd α)) (a:Nat):Prop:=(∀ i,0<i->i<H.length->(i-1)/2≠a->¬ (gt H i).lt (gt H ((i-1)/2)))/\(∀ c,0<c->c<H.length->(c-1)/2=a->0<a->¬ (gt H c).lt (gt H ((a-1)/2)))
def swp (H:List (Hd α)) (i j:Nat):List (Hd α):=(H.set i (gt H j)).set j (gt H i)
theorem tM (H:List (Hd α)) (i j:Nat):(swp H i j).length=H.length:=by simp [swp]
theorem vT (H:List (Hd α)) (i:Nat) (x:Hd α) (hi:i<H.length) (j:Nat):gt (H.set i x) j=if j=i then x else gt H j:=by
 unfold gt;rw [List.getD_eq_getElem?_getD,List.getD_eq_getElem?_getD,List.getElem?_set];by_cases h:i=j
 ·subst h;simp [hi]
 ·rw [if_neg h,if_neg (Ne.symm h)]
theorem Oi (H:List (Hd α)) {i j:Nat} (hi:i<H.length) (hj:j<H.length) (q:Nat):gt (swp H i j) q=if q=j then gt H i else if q=i then gt H j else gt H q:=by
 unfold swp;rw [vT _ _ _ (by simpa using hj),vT _ _ _ hi]
theorem Oj (H:List (Hd α)) {i j:Nat} (hi:i<H.length) (hj:j<H.length):(swp H i j).Perm H:=by
 unfold swp gt;have e1:H.getD j zL=H[j]:=by simp [List.getD,hj]
 have e2:H.getD i zL=H[i]:=by simp [List.getD,hi]
 rw [e1,e2];exact List.set_set_perm hi hj
theorem lD.done {H:List (Hd α)} {a:Nat} (h:lD H a) (e:a=0\/¬ (gt H a).lt (gt H ((a-1)/2))):bK H:=by
 intro i h0 hi;by_cases q:i=a
 ·subst q
  rcases e with e | e
  ·omega
  ·exact e
 ·exact h.1 i h0 hi q
theorem lD.step {H:List (Hd α)} {a:Nat} (h:lD H a) (ha:a<H.length) (h0:0<a) (lt:(gt H a).lt (gt H ((a-1)/2))):lD (swp H a ((a-1)/2)) ((a-1)/2):=by
 obtain ⟨u,hu⟩:∃ u,(a-1)/2=u:=⟨_,rfl⟩;rw [hu] at lt ⊢;have ul:u<H.length:=by omega
 have G:=Oi H ha ul;refine ⟨fun i i0 hi ne=>?_,fun c c0 hc ec u0=>?_⟩
 ·rw [tM] at hi
  rw [G i,G ((i-1)/2),if_neg ne];by_cases q:i=a
  ·subst q
   rw [if_pos rfl,hu,if_pos rfl];exact lt.asymm
  ·rw [if_neg q]
   by_cases q1:(i-1)/2=u
   ·rw [if_pos q1]
    have:=h.1 i i0 hi q
    rw [q1] at this;exact Hd.nlt_lt this lt
   ·rw [if_neg q1]
    by_cases q2:(i-1)/2=a
    ·rw [if_pos q2]
     have:=h.2 i i0 hi q2 h0
     rwa [hu] at this
    ·rw [if_neg q2]
     exact h.1 i i0 hi q
 ·rw [tM] at hc
  have e1:(u-1)/2≠u:=by omega
  have e2:(u-1)/2≠a:=by omega
  have e3:c≠u:=by omega
  rw [G c,G ((u-1)/2),if_neg e3,if_neg e1,if_neg e2];have e4:=h.1 u u0 ul (by omega)
  by_cases q:c=a
  ·rw [if_pos q];exact e4
  ·rw [if_neg q]
   have:=h.1 c c0 hc q
   rw [ec] at this;exact Hd.nlt_trans this e4
def Eb (H:List (Hd α)) (a d:Nat):Prop:=(d=a/\∀ c,0<c->c<H.length->(c-1)/2=a->¬ (gt H c).lt (gt H a))\/(a<d/\d<H.length/\(d-1)/2=a/\(gt H d).lt (gt H a)/\∀ c,0<c->c<H.length->(c-1)/2=a->¬ (gt H c).lt (gt H d))
theorem nZ.done {H:List (Hd α)} {a:Nat} (h:nZ H a) (e:∀ c,0<c->c<H.length->(c-1)/2=a->¬ (gt H c).lt (gt H a)):bK H:=by
 intro i h0 hi;by_cases q:(i-1)/2=a
 ·rw [q];exact e i h0 hi q
 ·exact h.1 i h0 hi q
theorem nZ.step {H:List (Hd α)} {a d:Nat} (h:nZ H a) (ad:a<d) (hd:d<H.length) (pd:(d-1)/2=a) (lt:(gt H d).lt (gt H a)) (e:∀ c,0<c->c<H.length->(c-1)/2=a->¬ (gt H c).lt (gt H d)):nZ (swp H a d) d:=by
 have G:=Oi H (show a<H.length by omega) hd
 refine ⟨fun i i0 hi ne=>?_,fun c c0 hc ec u0=>?_⟩
 ·rw [tM] at hi
  rw [G i,G ((i-1)/2),if_neg ne];by_cases q:i=d
  ·subst q
   rw [if_pos rfl,if_pos pd];exact lt.asymm
  ·rw [if_neg q]
   by_cases q1:i=a
   ·subst q1
    rw [if_pos rfl,if_neg (by omega)]
    exact h.2 d (by omega) hd pd i0
   ·rw [if_neg q1]
    by_cases q2:(i-1)/2=a
    ·rw [if_pos q2];exact e i i0 hi q2
    ·rw [if_neg q2];exact h.1 i i0 hi q2
 ·rw [tM] at hc
  have e1:c≠d:=by omega
  have e2:c≠a:=by omega
  rw [G c,G ((d-1)/2),if_neg e1,if_neg e2,if_neg (by omega),if_pos pd]
  have:=h.1 c c0 hc (by omega)
  rwa [ec] at this
theorem bK.first {H:List (Hd α)} (h:bK H):∀ (n i:Nat),i<=n->i<H.length->¬ (gt H i).lt (gt H 0)
 | 0,i,hn,hi=>by
  have:i=0:=by omega
  subst this;simp only [Hd.lt];omega
 | n+1,i,hn,hi=>by
  by_cases q:i=0
  ·subst q;simp only [Hd.lt];omega
  ·exact Hd.nlt_trans (h i (by omega) hi) (bK.first h n ((i-1)/2) (by omega) (by omega))
theorem bK.least {H:List (Hd α)} (h:bK H) {x:Hd α} (hx:x∈H):¬ x.lt (gt H 0):=by
 obtain ⟨i,hi,rfl⟩:=List.mem_iff_getElem.1 hx;have:=h.first i i (Nat.le_refl _) hi;rwa [show gt H i=H[i] by simp [gt,List.getD,hi]] at this
theorem Ok (H:List (Hd α)) (x:Hd α) (i:Nat):gt (H++[x]) i=if i<H.length then gt H i else if i=H.length then x else zL:=by
 unfold gt;rw [List.getD_eq_getElem?_getD,List.getD_eq_getElem?_getD,List.getElem?_append];split
 ·rfl
 ·rename_i q
  by_cases e:i=H.length
  ·rw [if_pos e,e];simp
  ·rw [if_neg e,List.getElem?_eq_none (by simp;omega)];rfl
theorem bK.app {H:List (Hd α)} (h:bK H) (x:Hd α):lD (H++[x]) H.length:=by
 refine ⟨fun i i0 hi ne=>?_,fun c c0 hc ec a0=>?_⟩
 ·have:i<H.length:=by simp at hi;omega
  rw [Ok,Ok,if_pos this,if_pos (by omega)]
  exact h i i0 this
 ·simp at hc;omega
def lE (H:List (Hd α)):List (Hd α):=(H.set 0 (gt H (H.length-1))).take (H.length-1)
theorem Ec (H:List (Hd α)):(lE H).length=H.length-1:=by simp [lE]
theorem abc (H:List (Hd α)) (h0:0<H.length):H.Perm (gt H 0::lE H):=by
 match H,h0 with
 | x::t,_ =>
  rcases List.eq_nil_or_concat t with rfl | ⟨t0,y,rfl⟩
  ·simp [gt,lE]
  ·have e:gt (x::t0.concat y) ((x::t0.concat y).length-1)=y:=by simp [gt,List.concat_eq_append]
   unfold lE;rw [e];simp only [List.concat_eq_append,List.set_cons_zero,List.length_cons,List.length_append,List.length_nil,Nat.zero_add,Nat.add_sub_cancel];show List.Perm _ (x::List.take (t0.length+1) (y::(t0++[y])));rw [List.take_succ_cons,List.take_left']
   ·exact List.Perm.cons _ (List.perm_append_comm (l₁:=t0) (l₂:=[y]))
   ·rfl
theorem Ol (H:List (Hd α)) (n i:Nat) (hi:i<n):gt (H.take n) i=gt H i:=by
 unfold gt;rw [List.getD_eq_getElem?_getD,List.getD_eq_getElem?_getD,List.getElem?_take_of_lt hi]
theorem bK.cut {H:List (Hd α)} (h:bK H) (h0:0<H.length):nZ (lE H) 0:=by
 refine ⟨fun i i0 hi ne=>?_,fun c c0 hc ec a0=>by omega⟩
 rw [Ec] at hi;unfold lE;rw [Ol _ _ _ hi,Ol _ _ _ (by omega),vT _ _ _ h0,vT _ _ _ h0,if_neg (by omega),if_neg ne]
 exact h i i0 (by omega)
variable (key:α->Int) (sz:Nat)
def da (i:Nat) (s:aB α):List (Hd α):=match s.l with
 | []=>[]
 | x::_=>[⟨key x,i,s⟩]
def bT:Nat->List (aB α)->List (Hd α)
 | _,[]=>[]
 | i,s::r=>da key i s++bT (i+1) r
def adv (s:aB α):aB α:=⟨s.b,s.off+sz,s.c-1,s.l.tail⟩
def gH (k:Int) (s:aB α):aB α:=match s.l with
 | []=>s
 | x::_=>if key x=k then adv sz s else s
variable {key} {sz}
theorem abd (k:Int) (s:aB α):(gH key sz k s).l=pass key k s.l:=by
 obtain ⟨b,off,c,l⟩:=s;cases l with
 | nil=>rfl
 | cons x t =>
  simp only [gH,pass];split<;>rfl
theorem Om {i:Nat} {s:aB α} {h:Hd α} (m:h∈da key i s):h.i=i/\h.s=s/\∃ x t,s.l=x::t/\h.k=key x:=by
 unfold da at m;split at m
 ·cases m
 ·rename_i x t e
  have:h=⟨key x,i,s⟩:=by simpa using m
  subst this;exact ⟨rfl,rfl,x,t,e,rfl⟩
theorem zN:∀ {L:List (aB α)} {i:Nat} {h:Hd α},h∈bT key i L->h.s∈L/\i<=h.i/\h.i<i+L.length/\∃ x t,h.s.l=x::t/\h.k=key x
 | [],i,h,m=>by simp [bT] at m
 | s::r,i,h,m=>by
  rw [bT,List.mem_append] at m;rcases m with m | m
  ·obtain ⟨h1,h2,x,t,h3,h4⟩:=Om m
   exact ⟨by rw [h2];exact List.mem_cons_self ..,by omega,by simp;omega,x,t,by rw [h2];exact h3,h4⟩
  ·obtain ⟨h1,h2,h3,h4⟩:=zN m
   exact ⟨List.mem_cons_of_mem _ h1,by omega,by simp;omega,h4⟩
theorem On {L:List (aB α)} {s:aB α} (hs:s∈L) {x:α} {t:List α} (e:s.l=x::t):∀ i,∃ h∈bT key i L,h.s=s/\h.k=key x:=by
 induction L with
 | nil=>cases hs
 | cons a r ih =>
  intro i;rcases List.mem_cons.1 hs with rfl | q
  ·refine ⟨⟨key x,i,s⟩,?_,rfl,rfl⟩
   rw [bT,List.mem_append];left;unfold da;rw [e];exact List.mem_cons_self ..
  ·obtain ⟨h,h1,h2⟩:=ih q (i+1)
   exact ⟨h,by rw [bT,List.mem_append];exact .inr h1,h2⟩
theorem abe {L:List (aB α)} {i:Nat} (h:bT key i L=[]):cJ key (L.map aB.l)=none:=by
 rw [vF];intro l hl;obtain ⟨s,hs,rfl⟩:=List.mem_map.1 hl;cases e:s.l with
 | nil=>rfl
 | cons x t =>
  obtain ⟨y,hy,_⟩:=On hs e i (key:=key);rw [h] at hy;cases hy
theorem Oo:∀ {L:List (aB α)} {i:Nat} {h:Hd α},h∈bT key i L->(∀ y∈bT key i L,¬ y.lt h)->∃ x t,h.s.l=x::t/\h.k=key x/\cJ key (L.map aB.l)=some x
 | [],i,h,m,_=>by simp [bT] at m
 | s::r,i,h,m,mn=>by
  rw [bT,List.mem_append] at m;have mr:∀ y∈bT key (i+1) r,¬ y.lt h:=fun y hy=>mn y (by rw [bT,List.mem_append];exact .inr hy)
  rcases m with m | m
  ·obtain ⟨h1,h2,x,t,h3,h4⟩:=Om m
   refine ⟨x,t,by rw [h2];exact h3,h4,?_⟩
   rw [List.map_cons,h3];simp only [cJ];cases e:cJ key (r.map aB.l) with
   | none=>rfl
   | some y =>
    obtain ⟨a,l,b,el,_,_⟩:=vG e;have:(y::l)∈r.map aB.l:=by rw [el];simp
    obtain ⟨s',dT,es⟩:=List.mem_map.1 this;obtain ⟨q,hq,_,qk⟩:=On dT es (i+1) (key:=key);have:=mr q hq;simp only [Hd.lt] at this;have nl:¬ key y<key x:=by omega
    simp [nl]
  ·obtain ⟨x,t,h1,h2,h3⟩:=Oo m mr
   refine ⟨x,t,h1,h2,?_⟩;rw [List.map_cons];cases e:s.l with
   | nil=>simp only [cJ];exact h3
   | cons z u =>
    simp only [cJ,h3];obtain ⟨_,g1,_,_⟩:=zN m;have:¬ (⟨key z,i,s⟩:Hd α).lt h:=mn _ (by rw [bT,List.mem_append];left;unfold da;rw [e];exact List.mem_cons_self ..)
    simp only [Hd.lt] at this;rw [if_pos (by omega)]
theorem Oq (k:Int):∀ (L:List (aB α)) (i:Nat),(bT key i (L.map (gH key sz k))).Perm ((bT key i L).filter (fun h=>!decide (h.k=k))++((bT key i L).filter (fun h=>decide (h.k=k))).flatMap (fun h=>da key h.i (adv sz h.s)))
 | [],i=>by simp [bT]
 | s::r,i=>by
  have ih:=Oq k r (i+1);rw [List.map_cons,bT,bT];rw [List.filter_append,List.filter_append,List.flatMap_append];cases e:s.l with
  | nil =>
   have e1:da key i s=[]:=by unfold da;rw [e]
   have e2:da key i (gH key sz k s)=[]:=by
    have:gH key sz k s=s:=by unfold gH;rw [e]
    rw [this];exact e1
   rw [e1,e2];simpa using ih
  | cons x t =>
   have e1:da key i s=[⟨key x,i,s⟩]:=by unfold da;rw [e]
   rw [e1];by_cases q:key x=k
   ·have e2:gH key sz k s=adv sz s:=by unfold gH;rw [e];simp [q]
    rw [e2];simp only [List.filter_cons,List.filter_nil,q,decide_true,Bool.not_true,if_true,List.flatMap_cons,List.flatMap_nil,List.append_nil];refine (List.Perm.append_left _ ih).trans ?_;simp only [Bool.false_eq_true,if_false,List.nil_append];rw [<-List.append_assoc,<-List.append_assoc];exact List.Perm.append_right _ List.perm_append_comm
   ·have e2:gH key sz k s=s:=by unfold gH;rw [e];simp [q]
    rw [e2,e1];simp only [List.filter_cons,List.filter_nil,q,decide_false,Bool.not_false,if_true,Bool.false_eq_true,if_false,List.flatMap_nil,List.nil_append,List.cons_append];exact List.Perm.cons _ ih
theorem filter_all {β:Type} {p:β->Bool} {l:List β} (h:∀ x∈l,p x=true):l.filter p=l:=List.filter_eq_self.2 h
theorem Ot {β:Type} {p:β->Bool} {l:List β} (h:∀ x∈l,p x=false):l.filter p=[]:=by
 rw [List.filter_eq_nil_iff];intro x hx;rw [h x hx];decide
theorem abf {L:List (aB α)} {H P H' Hf:List (Hd α)} {k:Int} (hH:H.Perm (bT key 0 L)) (hP:(P++H').Perm H) (p1:∀ p∈P,p.k=k) (p2:∀ h∈H',h.k≠k) (hf:Hf.Perm (H'++P.flatMap (fun h=>da key h.i (adv sz h.s)))):Hf.Perm (bT key 0 (L.map (gH key sz k))):=by
 have h1:=Oq (sz:=sz) k L 0 (key:=key);have e:=hP.trans hH;have f1:=e.filter (fun h:Hd α=>!decide (h.k=k))
 have f2:=e.filter (fun h:Hd α=>decide (h.k=k))
 rw [List.filter_append,Ot (l:=P) (fun x hx=>by simp [p1 x hx]),filter_all (l:=H') (fun x hx=>by simp [p2 x hx]),List.nil_append] at f1
 rw [List.filter_append,filter_all (l:=P) (fun x hx=>by simp [p1 x hx]),Ot (l:=H') (fun x hx=>by simp [p2 x hx]),List.append_nil] at f2
 exact hf.trans ((List.Perm.append f1 (f2.flatMap_right _)).trans h1.symm)
theorem Ed:∀ (L:List (aB α)) (i:Nat),(bT key i L).length<=L.length
 | [],i=>Nat.le_refl _
 | s::r,i=>by
  rw [bT,List.length_append];have:=Ed r (i+1);have:(da key i s).length<=1:=by unfold da;split<;>simp
  simp;omega
end
end Go.Proofs.YtklkpldicbkjeaaGreat
