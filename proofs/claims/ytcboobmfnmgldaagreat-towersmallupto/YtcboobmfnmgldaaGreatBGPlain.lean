/- Sorted lists brought together: plain words. No Go in it. -/
set_option linter.unusedVariables false
namespace Go.Proofs.YtcboobmfnmgldaaGreat
section
variable {α:Type} (key:α->Int)
def eI:List (List α)->Option α
 | []=>none
 | []::r=>eI r
 | (x::_)::r=>match eI r with
  | none=>some x
  | some y=>if key y<key x then some y else some x
def pass (k:Int):List α->List α
 | []=>[]
 | x::l=>if key x=k then l else x::l
def Mg:List (List α)->List α->Prop
 | ls,[]=>eI key ls=none
 | ls,x::out=>eI key ls=some x/\Mg (ls.map (pass key (key x))) out
variable {key}
variable {ls:List (List α)}
theorem Mg.done (h:eI key ls=none):Mg key ls []:=by unfold Mg;exact h
variable {x:α} {out:List α}
theorem Mg.step (h:eI key ls=some x) (r:Mg key (ls.map (pass key (key x))) out):Mg key ls (x::out):=by unfold Mg;exact ⟨h,r⟩
theorem Mg.ind {motive:(ls:List (List α))->(out:List α)->Mg key ls out->Prop} (done:∀ {ls:List (List α)} (h:eI key ls=none),motive ls [] (Mg.done h)) (step:∀ {ls:List (List α)} {x:α} {out:List α} (h:eI key ls=some x) (r:Mg key (ls.map (pass key (key x))) out) (ih:motive _ out r),motive ls (x::out) (Mg.step h r)):∀ {ls:List (List α)} {out:List α} (h:Mg key ls out),motive ls out h:=by
 intro ls out;induction out generalizing ls with
 | nil=>intro h;exact done (by unfold Mg at h;exact h)
 | cons x out ih =>
  intro h;have h':=h;unfold Mg at h';exact step h'.1 h'.2 (ih h'.2)
theorem Mg.one {a b:List α} (h:Mg key ls a) (h':Mg key ls b):a=b:=by
 induction h using Mg.ind generalizing b with
 | done e =>
  cases b with
  | nil=>rfl
  | cons y b=>unfold Mg at h';rw [e] at h';cases h'.1
 | step e _ ih =>
  cases b with
  | nil=>unfold Mg at h';rw [e] at h';cases h'
  | cons y b =>
   unfold Mg at h';have q:=h'.1;rw [e] at q;cases q;rw [ih h'.2]
def aF (ls:List (List α)):Nat:=(ls.map List.length).sum
theorem iF (l:List α) (ls:List (List α)):aF (l::ls)=l.length+aF ls:=by simp [aF]
theorem vO (k:Int) (x:α) (l:List α):pass key k (x::l)=if key x=k then l else x::l:=rfl
theorem aaQ (k:Int) (l:List α):(pass key k l).length<=l.length:=by
 cases l with
 | nil=>exact Nat.le_refl _
 | cons x l=>rw [vO];split<;>simp
theorem NJ (k:Int) (ls:List (List α)):aF (ls.map (pass key k))<=aF ls:=by
 induction ls with
 | nil=>exact Nat.le_refl _
 | cons l ls ih=>rw [List.map_cons,iF,iF];have:=aaQ (key:=key) k l;omega
theorem Eu:eI key ls=none↔∀ l∈ls,l=[]:=by
 induction ls with
 | nil=>simp [eI]
 | cons l ls ih =>
  cases l with
  | nil=>simp [eI,ih]
  | cons x l =>
   simp only [eI];constructor
   ·intro h;split at h
    ·cases h
    ·split at h<;>cases h
   ·intro h;have:=h _ (List.mem_cons_self ..);cases this
theorem Aa (h:eI key ls=some x):∃ a l b,ls=a++(x::l)::b/\(∀ y t,y::t∈a->key x<key y)/\(∀ y t,y::t∈ls->key x<=key y):=by
 induction ls generalizing x with
 | nil=>simp [eI] at h
 | cons l ls ih =>
  cases l with
  | nil =>
   obtain ⟨a,l',b,e,h1,h2⟩:=ih (by simpa [eI] using h)
   refine ⟨[]::a,l',b,by simp [e],fun y t hy=>?_,fun y t hy=>?_⟩
   ·rcases List.mem_cons.1 hy with q | q
    ·cases q
    ·exact h1 y t q
   ·rcases List.mem_cons.1 hy with q | q
    ·cases q
    ·exact h2 y t q
  | cons z l =>
   simp only [eI] at h;split at h
   ·rename_i hn
    cases h
    refine ⟨[],l,ls,rfl,(fun y t hy=>by cases hy),fun y t hy=>?_⟩
    rcases List.mem_cons.1 hy with q | q
    ·cases q;exact Int.le_refl _
    ·have:=Eu.1 hn _ q;cases this
   ·rename_i y hy
    obtain ⟨a,l',b,e,h1,h2⟩:=ih hy;split at h
    ·rename_i lt
     cases h
     refine ⟨(z::l)::a,l',b,by simp [e],fun y' t gO=>?_,fun y' t gO=>?_⟩
     ·rcases List.mem_cons.1 gO with q | q
      ·cases q;exact lt
      ·exact h1 y' t q
     ·rcases List.mem_cons.1 gO with q | q
      ·cases q;exact Int.le_of_lt lt
      ·exact h2 y' t q
    ·rename_i ge
     cases h
     refine ⟨[],l,ls,rfl,(fun y t hy=>by cases hy),fun y' t gO=>?_⟩
     rcases List.mem_cons.1 gO with q | q
     ·cases q;exact Int.le_refl _
     ·have:=h2 y' t q;omega
theorem nQ (a b:List (List α)):aF (a++b)=aF a+aF b:=by simp [aF]
theorem NK (h:eI key ls=some x):aF (ls.map (pass key (key x)))<aF ls:=by
 obtain ⟨a,l,b,e,_,_⟩:=Aa h;rw [e,List.map_append,List.map_cons,nQ,nQ,iF,iF];have h1:=NJ (key:=key) (key x) a;have h2:=NJ (key:=key) (key x) b;have h3:(pass key (key x) (x::l)).length=l.length:=by simp [pass]
 rw [h3];simp;omega
theorem Mg.few (h:Mg key ls out):out.length<=aF ls:=by
 induction h using Mg.ind with
 | done _=>exact Nat.zero_le _
 | step e _ ih=>have:=NK e;simp;omega
def aG (key:α->Int) (l:List α):Prop:=l.Pairwise fun a b=>key a<key b
def look (key:α->Int) (k:Int) (l:List α):Option α:=l.find? fun x=>key x == k
theorem look_nil (k:Int):look key k []=none:=rfl
theorem cN (k:Int) (x:α) (l:List α):look key k (x::l)=if key x=k then some x else look key k l:=by
 unfold look;rw [List.find?_cons];by_cases h:key x=k
 ·simp [h]
 ·rw [if_neg h,show (key x == k)=false by simpa using h]
variable {k:Int} {l:List α}
theorem vP (h:look key k l=some x):key x=k:=by
 have:=List.find?_some h
 simpa using this
theorem aG.below (h:∀ x∈l,k<key x):look key k l=none:=by
 unfold look;rw [List.find?_eq_none];intro x hx;have:=h x hx;simp;omega
theorem aG.eq:∀ {a b:List α},aG key a->aG key b->(∀ k,look key k a=look key k b)->a=b
 | [],[],_,_,_=>rfl
 | [],y::b,_,_,h=>by have:=h (key y);rw [look_nil,cN,if_pos rfl] at this;cases this
 | x::a,[],_,_,h=>by have:=h (key x);rw [look_nil,cN,if_pos rfl] at this;cases this
 | x::a,y::b,ha,hb,h=>by
  obtain ⟨a1,a2⟩:=List.pairwise_cons.1 ha;obtain ⟨b1,b2⟩:=List.pairwise_cons.1 hb;have xy:key x=key y:=by
   rcases Int.lt_trichotomy (key x) (key y) with q | q | q
   ·have e:=h (key x)
    rw [cN,if_pos rfl,cN,if_neg (by omega),aG.below fun z hz=>by have:=b1 z hz;omega] at e
    cases e
   ·exact q
   ·have e:=h (key y)
    rw [cN,if_neg (by omega),aG.below (fun z hz=>by have:=a1 z hz;omega),cN,if_pos rfl] at e
    cases e
  have e:=h (key x);rw [cN,if_pos rfl,cN,if_pos xy.symm] at e;cases e;have:a=b:=aG.eq a2 b2 fun k=>by
   have e:=h k;rw [cN,cN] at e;by_cases q:key x=k
   ·subst q
    rw [aG.below a1,aG.below b1]
   ·rw [if_neg q,if_neg q] at e
    exact e
  rw [this]
def cI (key:α->Int) (k:Int):List (List α)->Option α
 | []=>none
 | l::r=>match look key k l with
  | some x=>some x
  | none=>cI key k r
theorem aG.pass (h:aG key l):aG key (pass key k l):=by
 cases l with
 | nil=>exact h
 | cons x l=>rw [vO];split;exact (List.pairwise_cons.1 h).2;exact h
theorem aaR (h:aG key l) (hk:∀ y t,l=y::t->k<=key y):∀ y∈pass key k l,k<key y:=by
 cases l with
 | nil=>intro y hy;cases hy
 | cons x l =>
  obtain ⟨h1,h2⟩:=List.pairwise_cons.1 h;have:=hk x l rfl;rw [vO];split
  ·intro y hy;have:=h1 y hy;omega
  ·intro y hy
   rcases List.mem_cons.1 hy with rfl | q
   ·omega
   ·have:=h1 y q;omega
theorem aaS {k':Int} (n:k'≠k):look key k' (pass key k l)=look key k' l:=by
 cases l with
 | nil=>rfl
 | cons x l =>
  rw [vO];split
  ·rename_i e
   rw [cN,if_neg (by omega)]
  ·rfl
theorem NM {k':Int} (n:k'≠k):∀ ls:List (List α),cI key k' (ls.map (pass key k))=cI key k' ls
 | []=>rfl
 | l::r=>by simp only [List.map_cons,cI,aaS n,NM n r]
theorem NU:∀ {ls:List (List α)},(∀ l∈ls,look key k l=none)->cI key k ls=none
 | [],_=>rfl
 | l::r,h=>by simp only [cI,h l (List.mem_cons_self ..)];exact NU fun l hl=>h l (List.mem_cons_of_mem _ hl)
theorem NV (b:List (List α)):∀ a:List (List α),(∀ l∈a,look key k l=none)->cI key k (a++b)=cI key k b
 | [],_=>rfl
 | l::r,h=>by simp only [List.cons_append,cI,h l (List.mem_cons_self ..)];exact NV b r fun l hl=>h l (List.mem_cons_of_mem _ hl)
theorem Mg.once (h:Mg key ls out) (rs:∀ l∈ls,aG key l):aG key out/\∀ k,look key k out=cI key k ls:=by
 induction h using Mg.ind with
 | done e =>
  refine ⟨List.Pairwise.nil,fun k=>?_⟩
  rw [NU fun l hl=>by rw [Eu.1 e l hl];rfl]
  rfl
 | @step ls x out e r ih =>
  obtain ⟨a,l,b,el,h1,h2⟩:=Aa e;obtain ⟨q1,q2⟩:=ih fun l' eS=>by
   obtain ⟨l,hl,rfl⟩:=List.mem_map.1 eS;exact (rs l hl).pass
  have ab:∀ y∈out,key x<key y:=fun y hy=>by
   have hs:look key (key y) out=some y:=by
    have:∀ (o:List α),aG key o->y∈o->look key (key y) o=some y:=by
     intro o;induction o with
     | nil=>intro _ h;cases h
     | cons z o ih =>
      intro hr hy;obtain ⟨z1,z2⟩:=List.pairwise_cons.1 hr;rw [cN];rcases List.mem_cons.1 hy with rfl | q
      ·rw [if_pos rfl]
      ·have:=z1 y q
       rw [if_neg (by omega)]
       exact ih z2 q
    exact this out q1 hy
   rw [q2] at hs;have:∀ Ab:List (List α),(∀ l∈Ab,∀ z∈l,key x<key z)->∀ z,cI key (key y) Ab=some z->key x<key y:=by
    intro Ab;induction Ab with
    | nil=>intro _ z hz;cases hz
    | cons l' r' ih' =>
     intro hl z hz;simp only [cI] at hz;cases hh:look key (key y) l' with
     | some u =>
      have hm:=List.mem_of_find?_eq_some hh;have:=hl l' (List.mem_cons_self ..) u hm;have:=vP hh;omega
     | none =>
      rw [hh] at hz;exact ih' (fun l eS=>hl l (List.mem_cons_of_mem _ eS)) z hz
   refine this _ (fun l' eS=>?_) y hs
   obtain ⟨l,hl,rfl⟩:=List.mem_map.1 eS;exact aaR (rs l hl) fun y t e=>h2 y t (by rw [<-e];exact hl)
  refine ⟨List.pairwise_cons.2 ⟨ab,q1⟩,fun k=>?_⟩
  rw [cN];by_cases ek:key x=k
  ·rw [if_pos ek]
   subst ek;rw [el,NV]
   ·simp only [cI,cN,if_true]
   ·intro l' eS
    cases l' with
    | nil=>rfl
    | cons y t =>
     have h3:=h1 y t eS;refine aG.below fun z hz=>?_
     have hr:=rs (y::t) (by rw [el];exact List.mem_append_left _ eS)
     rcases List.mem_cons.1 hz with rfl | q
     ·exact h3
     ·have:=(List.pairwise_cons.1 hr).1 z q
      omega
  ·rw [if_neg ek,q2,NM (Ne.symm ek)]
theorem aaT (h:aG key l) (p:α->Bool) (k:Int):look key k (l.filter p)=(look key k l).filter p:=by
 induction l with
 | nil=>rfl
 | cons x l ih =>
  obtain ⟨h1,h2⟩:=List.pairwise_cons.1 h;have ih:=ih h2;rw [cN,List.filter_cons];by_cases e:key x=k
  ·rw [if_pos e]
   by_cases q:p x=true
   ·rw [if_pos q,cN,if_pos e]
    simp [Option.filter,q]
   ·rw [if_neg q,ih,aG.below (by rw [<-e];exact h1)]
    simp [Option.filter,q]
  ·rw [if_neg e]
   by_cases q:p x=true
   ·rw [if_pos q,cN,if_neg e,ih]
   ·rw [if_neg q,ih]
theorem aG.filter (h:aG key l) (p:α->Bool):aG key (l.filter p):=List.Pairwise.filter p h
theorem aaU (h:x∈pass key k l):x∈l:=by
 cases l with
 | nil=>exact h
 | cons y l =>
  rw [vO] at h;split at h
  ·exact List.mem_cons_of_mem _ h
  ·exact h
end
section
variable {α:Type} {key:α->Int}
def bD (key:α->Int) (k:Int):List α->Nat
 | []=>0
 | y::l=>if key y<k then bD key k l+1 else 0
def ins (key:α->Int) (x:α):List α->List α
 | []=>[x]
 | y::l=>if key y<key x then y::ins key x l else if key y=key x then x::l else x::y::l
theorem Ac (k:Int):∀ l:List α,bD key k l<=l.length
 | []=>Nat.le_refl _
 | y::l=>by
  have:=Ac k l
  unfold bD;split
  ·simp;omega
  ·simp
variable {k:Int}
theorem NY:∀ {l:List α} {i:Nat},i<=l.length->(∀ t y,t<i->l[t]?=some y->key y<k)->(∀ y,l[i]?=some y->¬ key y<k)->bD key k l=i
 | [],i,hi,_,_=>by simp at hi;subst hi;rfl
 | x::l,0,_,_,h2=>by
  have:=h2 x (by simp)
  unfold bD;rw [if_neg this]
 | x::l,i+1,hi,h1,h2=>by
  have:=h1 0 x (by omega) (by simp)
  unfold bD;rw [if_pos this,NY (by simpa using hi) (fun t y ht h=>h1 (t+1) y (by omega) (by simpa using h)) (fun y h=>h2 y (by simpa using h))]
variable {x:α} {l:List α}
theorem aG.tail (h:aG key (x::l)):aG key l:=(List.pairwise_cons.1 h).2
theorem aG.head (h:aG key (x::l)):∀ y∈l,key x<key y:=(List.pairwise_cons.1 h).1
theorem Ad:∀ {l:List α},aG key l->look key k l=(match l[bD key k l]? with | some y=>if key y=k then some y else none | none=>none)
 | [],_=>rfl
 | x::l,h=>by
  rw [cN];unfold bD;by_cases c:key x<k
  ·rw [if_pos c,if_neg (by omega),Ad h.tail]
   simp
  ·rw [if_neg c]
   by_cases e:key x=k
   ·simp [e]
   ·rw [if_neg e,aG.below fun y hy=>by have:=h.head y hy;omega]
    simp [e]
variable {y:α}
theorem aaV (h:aG key l) (a:l[bD key k l]?=some y) (e:key y=k):look key k l=some y:=by
 rw [Ad h,a];simp [e]
theorem aaW (h:aG key l) (a:∀ y,l[bD key k l]?=some y->key y≠k):look key k l=none:=by
 rw [Ad h];cases q:l[bD key k l]? with
 | none=>rfl
 | some y=>simp [a y q]
theorem NZ (h:aG key l) (a:look key k l=some y):l[bD key k l]?=some y/\key y=k:=by
 rw [Ad h] at a;cases q:l[bD key k l]? with
 | none=>rw [q] at a;cases a
 | some z =>
  rw [q] at a;simp only at a;split at a
  ·cases a;exact ⟨rfl,by assumption⟩
  ·cases a
theorem N6 (h:aG key l) (a:look key k l=some y):bD key k l<l.length:=(List.getElem?_eq_some_iff.1 (NZ h a).1).1
theorem Ev:∀ {l:List α} {y:α},aG key l->look key (key x) l=some y->ins key x l=l.set (bD key (key x) l) x
 | [],y,_,h=>by cases h
 | z::l,y,r,h=>by
  rw [cN] at h;unfold ins bD;by_cases c:key z<key x
  ·rw [if_pos c,if_pos c]
   rw [if_neg (by omega)] at h
   rw [List.set_cons_succ,Ev r.tail h]
  ·rw [if_neg c,if_neg c]
   by_cases e:key z=key x
   ·rw [if_pos e];rfl
   ·rw [if_neg e] at h
    rw [aG.below fun y hy=>by have:=r.head y hy;omega] at h
    cases h
theorem Ew:∀ {l:List α},look key (key x) l=none->ins key x l=l.take (bD key (key x) l)++x::l.drop (bD key (key x) l)
 | [],_=>rfl
 | z::l,h=>by
  rw [cN] at h;unfold ins bD;by_cases c:key z<key x
  ·rw [if_pos c,if_pos c]
   rw [if_neg (by omega)] at h
   rw [Ew h];simp
  ·rw [if_neg c,if_neg c]
   by_cases e:key z=key x
   ·rw [if_pos e] at h;cases h
   ·rw [if_neg e];simp
theorem vQ {P:α->Prop} (hx:P x):∀ {l:List α},(∀ y∈l,P y)->∀ y∈ins key x l,P y
 | [],_,y,hy=>by
  rw [show ins key x []=[x] from rfl] at hy;rw [List.mem_singleton.1 hy];exact hx
 | z::l,h,y,hy=>by
  unfold ins at hy;split at hy
  ·rcases List.mem_cons.1 hy with rfl | q
   ·exact h y (List.mem_cons_self ..)
   ·exact vQ hx (fun u hu=>h u (List.mem_cons_of_mem _ hu)) y q
  ·split at hy
   ·rcases List.mem_cons.1 hy with rfl | q
    ·exact hx
    ·exact h y (List.mem_cons_of_mem _ q)
   ·rcases List.mem_cons.1 hy with rfl | q
    ·exact hx
    ·exact h y q
theorem aG.ins:∀ {l:List α},aG key l->aG key (ins key x l)
 | [],_=>List.pairwise_singleton _ _
 | z::l,r=>by
  unfold Go.Proofs.YtcboobmfnmgldaaGreat.ins;split
  ·rename_i c
   refine List.pairwise_cons.2 ⟨?_,aG.ins r.tail⟩;exact vQ (P:=fun y=>key z<key y) c (fun y hy=>r.head y hy)
  ·rename_i c
   split
   ·rename_i e
    exact List.pairwise_cons.2 ⟨fun y hy=>by have:=r.head y hy;omega,r.tail⟩
   ·rename_i e
    refine List.pairwise_cons.2 ⟨fun y hy=>?_,r⟩
    rcases List.mem_cons.1 hy with rfl | q
    ·omega
    ·have:=r.head y q;omega
theorem Oa:∀ {l:List α},aG key l->look key k (ins key x l)=if key x=k then some x else look key k l
 | [],_=>by rw [show ins key x []=[x] from rfl,cN]
 | z::l,r=>by
  unfold ins;split
  ·rename_i c
   rw [cN,cN,Oa r.tail];by_cases e:key z=k
   ·rw [if_pos e,if_pos e,if_neg (by omega)]
   ·rw [if_neg e,if_neg e]
  ·rename_i c
   split
   ·rename_i e
    rw [cN,cN];by_cases q:key x=k
    ·rw [if_pos q,if_pos q]
    ·rw [if_neg q,if_neg q,if_neg (by omega)]
   ·rename_i e
    rw [cN]
theorem Ob (h:look key (key x) l=none):(ins key x l).length=l.length+1:=by
 rw [Ew h,List.length_append,List.length_cons,List.length_take,List.length_drop];have:=Ac (key:=key) (key x) l;omega
theorem Oc (r:aG key l) (h:look key (key x) l=some y):(ins key x l).length=l.length:=by
 rw [Ev r h,List.length_set]
theorem Ae (r:aG key l):(ins key x l).length<=l.length+1:=by
 cases h:look key (key x) l with
 | none=>rw [Ob h];exact Nat.le_refl _
 | some y=>rw [Oc r h];exact Nat.le_succ _
end
structure aJ (α:Type) where
 b:Nat
 off:Nat
 c:Nat
 l:List α
structure Hd (α:Type) where
 k:Int
 i:Nat
 s:aJ α
def Af {α:Type}:Hd α:=⟨0,0,⟨0,0,0,[]⟩⟩
section
variable {α:Type}
def Hd.lt (a b:Hd α):Prop:=a.k<b.k\/a.k=b.k/\a.i<b.i
def iG (a b:Hd α):Bool:=decide (a.k<b.k)||(decide (a.k=b.k)&&decide (a.i<b.i))
variable {a b:Hd α}
theorem Ag:iG a b=true↔a.lt b:=by simp [iG,Hd.lt]
theorem Ex:iG a b=false↔¬ a.lt b:=by rw [<-Ag];simp
theorem Hd.lt.asymm (h:a.lt b):¬ b.lt a:=by simp only [Hd.lt] at *;omega
theorem Hd.nlt_trans {c:Hd α} (h:¬ a.lt b) (k:¬ b.lt c):¬ a.lt c:=by simp only [Hd.lt] at *;omega
theorem Hd.nlt_lt {c:Hd α} (h:¬ a.lt b) (k:c.lt b):¬ a.lt c:=by simp only [Hd.lt] at *;omega
def gt (H:List (Hd α)) (i:Nat):Hd α:=H.getD i Af
def bP (H:List (Hd α)):Prop:=∀ i,0<i->i<H.length->¬ (gt H i).lt (gt H ((i-1)/2))
def lC (H:List (Hd α)) (a:Nat):Prop:=(∀ i,0<i->i<H.length->i≠a->¬ (gt H i).lt (gt H ((i-1)/2)))/\(∀ c,0<c->c<H.length->(c-1)/2=a->0<a->¬ (gt H c).lt (gt H ((a-1)/2)))
def nR (H:List (Hd α)) (a:Nat):Prop:=(∀ i,0<i->i<H.length->(i-1)/2≠a->¬ (gt H i).lt (gt H ((i-1)/2)))/\(∀ c,0<c->c<H.length->(c-1)/2=a->0<a->¬ (gt H c).lt (gt H ((a-1)/2)))
def swp (H:List (Hd α)) (i j:Nat):List (Hd α):=(H.set i (gt H j)).set j (gt H i)
theorem tQ (H:List (Hd α)) (i j:Nat):(swp H i j).length=H.length:=by simp [swp]
theorem vR (H:List (Hd α)) (i:Nat) (x:Hd α) (hi:i<H.length) (j:Nat):gt (H.set i x) j=if j=i then x else gt H j:=by
 unfold gt;rw [List.getD_eq_getElem?_getD,List.getD_eq_getElem?_getD,List.getElem?_set];by_cases h:i=j
 ·subst h;simp [hi]
 ·rw [if_neg h,if_neg (Ne.symm h)]
variable {i:Nat}
theorem Od (H:List (Hd α)) {j:Nat} (hi:i<H.length) (hj:j<H.length) (q:Nat):gt (swp H i j) q=if q=j then gt H i else if q=i then gt H j else gt H q:=by
 unfold swp;rw [vR _ _ _ (by simpa using hj),vR _ _ _ hi]
theorem Oe (H:List (Hd α)) {j:Nat} (hi:i<H.length) (hj:j<H.length):(swp H i j).Perm H:=by
 unfold swp gt;have e1:H.getD j Af=H[j]:=by simp [List.getD,hj]
 have e2:H.getD i Af=H[i]:=by simp [List.getD,hi]
 rw [e1,e2];exact List.set_set_perm hi hj
variable {H:List (Hd α)}
theorem lC.done {a:Nat} (h:lC H a) (e:a=0\/¬ (gt H a).lt (gt H ((a-1)/2))):bP H:=by
 intro i h0 hi;by_cases q:i=a
 ·subst q
  rcases e with e | e
  ·omega
  ·exact e
 ·exact h.1 i h0 hi q
theorem lC.step {a:Nat} (h:lC H a) (ha:a<H.length) (h0:0<a) (lt:(gt H a).lt (gt H ((a-1)/2))):lC (swp H a ((a-1)/2)) ((a-1)/2):=by
 obtain ⟨u,hu⟩:∃ u,(a-1)/2=u:=⟨_,rfl⟩;rw [hu] at lt ⊢;have ul:u<H.length:=by omega
 have G:=Od H ha ul;refine ⟨fun i i0 hi ne=>?_,fun c c0 hc ec u0=>?_⟩
 ·rw [tQ] at hi
  rw [G i,G ((i-1)/2),if_neg ne];by_cases q:i=a
  ·subst q
   rw [if_pos rfl,hu,if_pos rfl];exact lt.asymm
  ·rw [if_neg q]
   by_cases q1:(i-1)/2=u
   ·rw [if_pos q1]
    have:=h.1 i i0 hi q
    rw [q1] at this;exact Hd.nlt_lt this lt
   ·rw [if_neg q1]
    by_cases q2:(i-1)/2=a
    ·rw [if_pos q2]
     have:=h.2 i i0 hi q2 h0
     rwa [hu] at this
    ·rw [if_neg q2]
     exact h.1 i i0 hi q
 ·rw [tQ] at hc
  have e1:(u-1)/2≠u:=by omega
  have e2:(u-1)/2≠a:=by omega
  have e3:c≠u:=by omega
  rw [G c,G ((u-1)/2),if_neg e3,if_neg e1,if_neg e2];have e4:=h.1 u u0 ul (by omega)
  by_cases q:c=a
  ·rw [if_pos q];exact e4
  ·rw [if_neg q]
   have:=h.1 c c0 hc q
   rw [ec] at this;exact Hd.nlt_trans this e4
def Ey (H:List (Hd α)) (a d:Nat):Prop:=(d=a/\∀ c,0<c->c<H.length->(c-1)/2=a->¬ (gt H c).lt (gt H a))\/(a<d/\d<H.length/\(d-1)/2=a/\(gt H d).lt (gt H a)/\∀ c,0<c->c<H.length->(c-1)/2=a->¬ (gt H c).lt (gt H d))
theorem nR.done {a:Nat} (h:nR H a) (e:∀ c,0<c->c<H.length->(c-1)/2=a->¬ (gt H c).lt (gt H a)):bP H:=by
 intro i h0 hi;by_cases q:(i-1)/2=a
 ·rw [q];exact e i h0 hi q
 ·exact h.1 i h0 hi q
theorem nR.step {a d:Nat} (h:nR H a) (ad:a<d) (hd:d<H.length) (pd:(d-1)/2=a) (lt:(gt H d).lt (gt H a)) (e:∀ c,0<c->c<H.length->(c-1)/2=a->¬ (gt H c).lt (gt H d)):nR (swp H a d) d:=by
 have G:=Od H (show a<H.length by omega) hd
 refine ⟨fun i i0 hi ne=>?_,fun c c0 hc ec u0=>?_⟩
 ·rw [tQ] at hi
  rw [G i,G ((i-1)/2),if_neg ne];by_cases q:i=d
  ·subst q
   rw [if_pos rfl,if_pos pd];exact lt.asymm
  ·rw [if_neg q]
   by_cases q1:i=a
   ·subst q1
    rw [if_pos rfl,if_neg (by omega)]
    exact h.2 d (by omega) hd pd i0
   ·rw [if_neg q1]
    by_cases q2:(i-1)/2=a
    ·rw [if_pos q2];exact e i i0 hi q2
    ·rw [if_neg q2];exact h.1 i i0 hi q2
 ·rw [tQ] at hc
  have e1:c≠d:=by omega
  have e2:c≠a:=by omega
  rw [G c,G ((d-1)/2),if_neg e1,if_neg e2,if_neg (by omega),if_pos pd]
  have:=h.1 c c0 hc (by omega)
  rwa [ec] at this
theorem bP.first (h:bP H):∀ (n i:Nat),i<=n->i<H.length->¬ (gt H i).lt (gt H 0)
 | 0,i,hn,hi=>by
  have:i=0:=by omega
  subst this;simp only [Hd.lt];omega
 | n+1,i,hn,hi=>by
  by_cases q:i=0
  ·subst q;simp only [Hd.lt];omega
  ·exact Hd.nlt_trans (h i (by omega) hi) (bP.first h n ((i-1)/2) (by omega) (by omega))
theorem bP.least (h:bP H) {x:Hd α} (hx:x∈H):¬ x.lt (gt H 0):=by
 obtain ⟨i,hi,rfl⟩:=List.mem_iff_getElem.1 hx;have:=h.first i i (Nat.le_refl _) hi;rwa [show gt H i=H[i] by simp [gt,List.getD,hi]] at this
theorem Of (H:List (Hd α)) (x:Hd α) (i:Nat):gt (H++[x]) i=if i<H.length then gt H i else if i=H.length then x else Af:=by
 unfold gt;rw [List.getD_eq_getElem?_getD,List.getD_eq_getElem?_getD,List.getElem?_append];split
 ·rfl
 ·rename_i q
  by_cases e:i=H.length
  ·rw [if_pos e,e];simp
  ·rw [if_neg e,List.getElem?_eq_none (by simp;omega)];rfl
theorem bP.app (h:bP H) (x:Hd α):lC (H++[x]) H.length:=by
 refine ⟨fun i i0 hi ne=>?_,fun c c0 hc ec a0=>?_⟩
 ·have:i<H.length:=by simp at hi;omega
  rw [Of,Of,if_pos this,if_pos (by omega)]
  exact h i i0 this
 ·simp at hc;omega
def lD (H:List (Hd α)):List (Hd α):=(H.set 0 (gt H (H.length-1))).take (H.length-1)
theorem Ez (H:List (Hd α)):(lD H).length=H.length-1:=by simp [lD]
theorem aaX (H:List (Hd α)) (h0:0<H.length):H.Perm (gt H 0::lD H):=by
 match H,h0 with
 | x::t,_ =>
  rcases List.eq_nil_or_concat t with rfl | ⟨t0,y,rfl⟩
  ·simp [gt,lD]
  ·have e:gt (x::t0.concat y) ((x::t0.concat y).length-1)=y:=by simp [gt,List.concat_eq_append]
   unfold lD;rw [e];simp only [List.concat_eq_append,List.set_cons_zero,List.length_cons,List.length_append,List.length_nil,Nat.zero_add,Nat.add_sub_cancel];show List.Perm _ (x::List.take (t0.length+1) (y::(t0++[y])));rw [List.take_succ_cons,List.take_left']
   ·exact List.Perm.cons _ (List.perm_append_comm (l₁:=t0) (l₂:=[y]))
   ·rfl
theorem Og (H:List (Hd α)) (n i:Nat) (hi:i<n):gt (H.take n) i=gt H i:=by
 unfold gt;rw [List.getD_eq_getElem?_getD,List.getD_eq_getElem?_getD,List.getElem?_take_of_lt hi]
theorem bP.cut (h:bP H) (h0:0<H.length):nR (lD H) 0:=by
 refine ⟨fun i i0 hi ne=>?_,fun c c0 hc ec a0=>by omega⟩
 rw [Ez] at hi;unfold lD;rw [Og _ _ _ hi,Og _ _ _ (by omega),vR _ _ _ h0,vR _ _ _ h0,if_neg (by omega),if_neg ne]
 exact h i i0 (by omega)
variable (key:α->Int) (sz:Nat)
def dS (i:Nat) (s:aJ α):List (Hd α):=match s.l with
 | []=>[]
 | x::_=>[⟨key x,i,s⟩]
def ca:Nat->List (aJ α)->List (Hd α)
 | _,[]=>[]
 | i,s::r=>dS key i s++ca (i+1) r
def adv (s:aJ α):aJ α:=⟨s.b,s.off+sz,s.c-1,s.l.tail⟩
def gY (k:Int) (s:aJ α):aJ α:=match s.l with
 | []=>s
 | x::_=>if key x=k then adv sz s else s
variable {key} {sz}
theorem aaY (k:Int) (s:aJ α):(gY key sz k s).l=pass key k s.l:=by
 obtain ⟨b,off,c,l⟩:=s;cases l with
 | nil=>rfl
 | cons x t =>
  simp only [gY,pass];split<;>rfl
theorem Oh {s:aJ α} {h:Hd α} (m:h∈dS key i s):h.i=i/\h.s=s/\∃ x t,s.l=x::t/\h.k=key x:=by
 unfold dS at m;split at m
 ·cases m
 ·rename_i x t e
  have:h=⟨key x,i,s⟩:=by simpa using m
  subst this;exact ⟨rfl,rfl,x,t,e,rfl⟩
theorem Ah:∀ {L:List (aJ α)} {i:Nat} {h:Hd α},h∈ca key i L->h.s∈L/\i<=h.i/\h.i<i+L.length/\∃ x t,h.s.l=x::t/\h.k=key x
 | [],i,h,m=>by simp [ca] at m
 | s::r,i,h,m=>by
  rw [ca,List.mem_append] at m;rcases m with m | m
  ·obtain ⟨h1,h2,x,t,h3,h4⟩:=Oh m
   exact ⟨by rw [h2];exact List.mem_cons_self ..,by omega,by simp;omega,x,t,by rw [h2];exact h3,h4⟩
  ·obtain ⟨h1,h2,h3,h4⟩:=Ah m
   exact ⟨List.mem_cons_of_mem _ h1,by omega,by simp;omega,h4⟩
variable {L:List (aJ α)} {x:α}
theorem Oi {s:aJ α} (hs:s∈L) {t:List α} (e:s.l=x::t):∀ i,∃ h∈ca key i L,h.s=s/\h.k=key x:=by
 induction L with
 | nil=>cases hs
 | cons a r ih =>
  intro i;rcases List.mem_cons.1 hs with rfl | q
  ·refine ⟨⟨key x,i,s⟩,?_,rfl,rfl⟩
   rw [ca,List.mem_append];left;unfold dS;rw [e];exact List.mem_cons_self ..
  ·obtain ⟨h,h1,h2⟩:=ih q (i+1)
   exact ⟨h,by rw [ca,List.mem_append];exact .inr h1,h2⟩
theorem aaZ (h:ca key i L=[]):eI key (L.map aJ.l)=none:=by
 rw [Eu];intro l hl;obtain ⟨s,hs,rfl⟩:=List.mem_map.1 hl;cases e:s.l with
 | nil=>rfl
 | cons x t =>
  obtain ⟨y,hy,_⟩:=Oi hs e i (key:=key);rw [h] at hy;cases hy
theorem Oj:∀ {L:List (aJ α)} {i:Nat} {h:Hd α},h∈ca key i L->(∀ y∈ca key i L,¬ y.lt h)->∃ x t,h.s.l=x::t/\h.k=key x/\eI key (L.map aJ.l)=some x
 | [],i,h,m,_=>by simp [ca] at m
 | s::r,i,h,m,mn=>by
  rw [ca,List.mem_append] at m;have mr:∀ y∈ca key (i+1) r,¬ y.lt h:=fun y hy=>mn y (by rw [ca,List.mem_append];exact .inr hy)
  rcases m with m | m
  ·obtain ⟨h1,h2,x,t,h3,h4⟩:=Oh m
   refine ⟨x,t,by rw [h2];exact h3,h4,?_⟩
   rw [List.map_cons,h3];simp only [eI];cases e:eI key (r.map aJ.l) with
   | none=>rfl
   | some y =>
    obtain ⟨a,l,b,el,_,_⟩:=Aa e;have:(y::l)∈r.map aJ.l:=by rw [el];simp
    obtain ⟨s',gH,es⟩:=List.mem_map.1 this;obtain ⟨q,hq,_,qk⟩:=Oi gH es (i+1) (key:=key);have:=mr q hq;simp only [Hd.lt] at this;have nl:¬ key y<key x:=by omega
    simp [nl]
  ·obtain ⟨x,t,h1,h2,h3⟩:=Oj m mr
   refine ⟨x,t,h1,h2,?_⟩;rw [List.map_cons];cases e:s.l with
   | nil=>simp only [eI];exact h3
   | cons z u =>
    simp only [eI,h3];obtain ⟨_,g1,_,_⟩:=Ah m;have:¬ (⟨key z,i,s⟩:Hd α).lt h:=mn _ (by rw [ca,List.mem_append];left;unfold dS;rw [e];exact List.mem_cons_self ..)
    simp only [Hd.lt] at this;rw [if_pos (by omega)]
theorem Ok (k:Int):∀ (L:List (aJ α)) (i:Nat),(ca key i (L.map (gY key sz k))).Perm ((ca key i L).filter (fun h=>!decide (h.k=k))++((ca key i L).filter (fun h=>decide (h.k=k))).flatMap (fun h=>dS key h.i (adv sz h.s)))
 | [],i=>by simp [ca]
 | s::r,i=>by
  have ih:=Ok k r (i+1);rw [List.map_cons,ca,ca];rw [List.filter_append,List.filter_append,List.flatMap_append];cases e:s.l with
  | nil =>
   have e1:dS key i s=[]:=by unfold dS;rw [e]
   have e2:dS key i (gY key sz k s)=[]:=by
    have:gY key sz k s=s:=by unfold gY;rw [e]
    rw [this];exact e1
   rw [e1,e2];simpa using ih
  | cons x t =>
   have e1:dS key i s=[⟨key x,i,s⟩]:=by unfold dS;rw [e]
   rw [e1];by_cases q:key x=k
   ·have e2:gY key sz k s=adv sz s:=by unfold gY;rw [e];simp [q]
    rw [e2];simp only [List.filter_cons,List.filter_nil,q,decide_true,Bool.not_true,if_true,List.flatMap_cons,List.flatMap_nil,List.append_nil];refine (List.Perm.append_left _ ih).trans ?_;simp only [Bool.false_eq_true,if_false,List.nil_append];rw [<-List.append_assoc,<-List.append_assoc];exact List.Perm.append_right _ List.perm_append_comm
   ·have e2:gY key sz k s=s:=by unfold gY;rw [e];simp [q]
    rw [e2,e1];simp only [List.filter_cons,List.filter_nil,q,decide_false,Bool.not_false,if_true,Bool.false_eq_true,if_false,List.flatMap_nil,List.nil_append,List.cons_append];exact List.Perm.cons _ ih
theorem filter_all {β:Type} {p:β->Bool} {l:List β} (h:∀ x∈l,p x=true):l.filter p=l:=List.filter_eq_self.2 h
theorem Ol {β:Type} {p:β->Bool} {l:List β} (h:∀ x∈l,p x=false):l.filter p=[]:=by
 rw [List.filter_eq_nil_iff];intro x hx;rw [h x hx];decide
variable {k:Int}
theorem aa0 {P H' Hf:List (Hd α)} (hH:H.Perm (ca key 0 L)) (hP:(P++H').Perm H) (p1:∀ p∈P,p.k=k) (p2:∀ h∈H',h.k≠k) (hf:Hf.Perm (H'++P.flatMap (fun h=>dS key h.i (adv sz h.s)))):Hf.Perm (ca key 0 (L.map (gY key sz k))):=by
 have h1:=Ok (sz:=sz) k L 0 (key:=key);have e:=hP.trans hH;have f1:=e.filter (fun h:Hd α=>!decide (h.k=k))
 have f2:=e.filter (fun h:Hd α=>decide (h.k=k))
 rw [List.filter_append,Ol (l:=P) (fun x hx=>by simp [p1 x hx]),filter_all (l:=H') (fun x hx=>by simp [p2 x hx]),List.nil_append] at f1
 rw [List.filter_append,filter_all (l:=P) (fun x hx=>by simp [p1 x hx]),Ol (l:=H') (fun x hx=>by simp [p2 x hx]),List.append_nil] at f2
 exact hf.trans ((List.Perm.append f1 (f2.flatMap_right _)).trans h1.symm)
theorem EH:∀ (L:List (aJ α)) (i:Nat),(ca key i L).length<=L.length
 | [],i=>Nat.le_refl _
 | s::r,i=>by
  rw [ca,List.length_append];have:=EH r (i+1);have:(dS key i s).length<=1:=by unfold dS;split<;>simp
  simp;omega
end
end Go.Proofs.YtcboobmfnmgldaaGreat
