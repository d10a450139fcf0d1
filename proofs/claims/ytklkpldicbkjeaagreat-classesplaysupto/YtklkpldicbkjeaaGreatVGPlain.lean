/- Sorted lists brought together: plain words. No Go in it. -/
import Derived.Test.YtklkpldicbkjeaaGreatVPE3
set_option linter.unusedVariables false
open Go.Proofs.Tryz
namespace Go.Proofs.YtklkpldicbkjeaaGreat
section
variable {α:Type} (key:α->Int)
def cJ:List (List α)->Option α
 | []=>none
 | []::r=>cJ r
 | (x::_)::r=>match cJ r with
  | none=>some x
  | some y=>if key y<key x then some y else some x
def pass (k:Int):List α->List α
 | []=>[]
 | x::l=>if key x=k then l else x::l
def Mg:List (List α)->List α->Prop
 | ls,[]=>cJ key ls=none
 | ls,x::out=>cJ key ls=some x/\Mg (ls.map (pass key (key x))) out
variable {key}
theorem Mg.done {ls:List (List α)} (h:cJ key ls=none):Mg key ls []:=by unfold Mg;exact h
theorem Mg.step {ls:List (List α)} {x:α} {out:List α} (h:cJ key ls=some x) (r:Mg key (ls.map (pass key (key x))) out):Mg key ls (x::out):=by unfold Mg;exact ⟨h,r⟩
theorem Mg.ind {motive:(ls:List (List α))->(out:List α)->Mg key ls out->Prop} (done:∀ {ls:List (List α)} (h:cJ key ls=none),motive ls [] (Mg.done h)) (step:∀ {ls:List (List α)} {x:α} {out:List α} (h:cJ key ls=some x) (r:Mg key (ls.map (pass key (key x))) out) (ih:motive _ out r),motive ls (x::out) (Mg.step h r)):∀ {ls:List (List α)} {out:List α} (h:Mg key ls out),motive ls out h:=by
 intro ls out;induction out generalizing ls with
 | nil=>intro h;exact done (by unfold Mg at h;exact h)
 | cons x out ih =>
  intro h;have h':=h;unfold Mg at h';exact step h'.1 h'.2 (ih h'.2)
theorem Mg.one {ls:List (List α)} {a b:List α} (h:Mg key ls a) (h':Mg key ls b):a=b:=by
 induction h using Mg.ind generalizing b with
 | done e =>
  cases b with
  | nil=>rfl
  | cons y b=>unfold Mg at h';rw [e] at h';cases h'.1
 | step e _ ih =>
  cases b with
  | nil=>unfold Mg at h';rw [e] at h';cases h'
  | cons y b =>
   unfold Mg at h';have q:=h'.1;rw [e] at q;cases q;rw [ih h'.2]
def aN (ls:List (List α)):Nat:=(ls.map List.length).sum
theorem nV (l:List α) (ls:List (List α)):aN (l::ls)=l.length+aN ls:=by simp [aN]
theorem pj (k:Int) (x:α) (l:List α):pass key k (x::l)=if key x=k then l else x::l:=rfl
theorem aay (k:Int) (l:List α):(pass key k l).length<=l.length:=by
 cases l with
 | nil=>exact Nat.le_refl _
 | cons x l=>rw [pj];split<;>simp
theorem Nb (k:Int) (ls:List (List α)):aN (ls.map (pass key k))<=aN ls:=by
 induction ls with
 | nil=>exact Nat.le_refl _
 | cons l ls ih=>rw [List.map_cons,nV,nV];have:=aay (key:=key) k l;omega
theorem vF {ls:List (List α)}:cJ key ls=none↔∀ l∈ls,l=[]:=by
 induction ls with
 | nil=>simp [cJ]
 | cons l ls ih =>
  cases l with
  | nil=>simp [cJ,ih]
  | cons x l =>
   simp only [cJ];constructor
   ·intro h;split at h
    ·cases h
    ·split at h<;>cases h
   ·intro h;have:=h _ (List.mem_cons_self ..);cases this
theorem vG {ls:List (List α)} {x:α} (h:cJ key ls=some x):∃ a l b,ls=a++(x::l)::b/\(∀ y t,y::t∈a->key x<key y)/\(∀ y t,y::t∈ls->key x<=key y):=by
 induction ls generalizing x with
 | nil=>simp [cJ] at h
 | cons l ls ih =>
  cases l with
  | nil =>
   obtain ⟨a,l',b,e,h1,h2⟩:=ih (by simpa [cJ] using h)
   refine ⟨[]::a,l',b,by simp [e],fun y t hy=>?_,fun y t hy=>?_⟩
   ·rcases List.mem_cons.1 hy with q | q
    ·cases q
    ·exact h1 y t q
   ·rcases List.mem_cons.1 hy with q | q
    ·cases q
    ·exact h2 y t q
  | cons z l =>
   simp only [cJ] at h;split at h
   ·rename_i hn
    cases h
    refine ⟨[],l,ls,rfl,(fun y t hy=>by cases hy),fun y t hy=>?_⟩
    rcases List.mem_cons.1 hy with q | q
    ·cases q;exact Int.le_refl _
    ·have:=vF.1 hn _ q;cases this
   ·rename_i y hy
    obtain ⟨a,l',b,e,h1,h2⟩:=ih hy;split at h
    ·rename_i lt
     cases h
     refine ⟨(z::l)::a,l',b,by simp [e],fun y' t fY=>?_,fun y' t fY=>?_⟩
     ·rcases List.mem_cons.1 fY with q | q
      ·cases q;exact lt
      ·exact h1 y' t q
     ·rcases List.mem_cons.1 fY with q | q
      ·cases q;exact Int.le_of_lt lt
      ·exact h2 y' t q
    ·rename_i ge
     cases h
     refine ⟨[],l,ls,rfl,(fun y t hy=>by cases hy),fun y' t fY=>?_⟩
     rcases List.mem_cons.1 fY with q | q
     ·cases q;exact Int.le_refl _
     ·have:=h2 y' t q;omega
theorem vH (a b:List (List α)):aN (a++b)=aN a+aN b:=by simp [aN]
theorem DE {ls:List (List α)} {x:α} (h:cJ key ls=some x):aN (ls.map (pass key (key x)))<aN ls:=by
 obtain ⟨a,l,b,e,_,_⟩:=vG h;rw [e,List.map_append,List.map_cons,vH,vH,nV,nV];have h1:=Nb (key:=key) (key x) a;have h2:=Nb (key:=key) (key x) b;have h3:(pass key (key x) (x::l)).length=l.length:=by simp [pass]
 rw [h3];simp;omega
theorem Mg.ex (key:α->Int):∀ (n:Nat) (ls:List (List α)),aN ls<=n->∃ out,Mg key ls out
 | n,ls,hn=>by
  cases h:cJ key ls with
  | none=>exact ⟨[],.done h⟩
  | some x =>
   have:=DE h
   match n,hn with
   | 0,hn=>omega
   | n+1,hn =>
    obtain ⟨out,r⟩:=Mg.ex key n (ls.map (pass key (key x))) (by omega)
    exact ⟨_,.step h r⟩
theorem Mg.few {ls:List (List α)} {out:List α} (h:Mg key ls out):out.length<=aN ls:=by
 induction h using Mg.ind with
 | done _=>exact Nat.zero_le _
 | step e _ ih=>have:=DE e;simp;omega
def dA (key:α->Int) (l:List α):Prop:=l.Pairwise fun a b=>key a<key b
def look (key:α->Int) (k:Int) (l:List α):Option α:=l.find? fun x=>key x == k
theorem look_nil (k:Int):look key k []=none:=rfl
theorem iH (k:Int) (x:α) (l:List α):look key k (x::l)=if key x=k then some x else look key k l:=by
 unfold look;rw [List.find?_cons];by_cases h:key x=k
 ·simp [h]
 ·rw [if_neg h,show (key x == k)=false by simpa using h]
theorem Nc {k:Int} {l:List α} {x:α} (h:look key k l=some x):key x=k:=by
 have:=List.find?_some h
 simpa using this
theorem dA.below {k:Int} {l:List α} (h:∀ x∈l,k<key x):look key k l=none:=by
 unfold look;rw [List.find?_eq_none];intro x hx;have:=h x hx;simp;omega
theorem dA.eq:∀ {a b:List α},dA key a->dA key b->(∀ k,look key k a=look key k b)->a=b
 | [],[],_,_,_=>rfl
 | [],y::b,_,_,h=>by have:=h (key y);rw [look_nil,iH,if_pos rfl] at this;cases this
 | x::a,[],_,_,h=>by have:=h (key x);rw [look_nil,iH,if_pos rfl] at this;cases this
 | x::a,y::b,ha,hb,h=>by
  obtain ⟨a1,a2⟩:=List.pairwise_cons.1 ha;obtain ⟨b1,b2⟩:=List.pairwise_cons.1 hb;have xy:key x=key y:=by
   rcases Int.lt_trichotomy (key x) (key y) with q | q | q
   ·have e:=h (key x)
    rw [iH,if_pos rfl,iH,if_neg (by omega),dA.below fun z hz=>by have:=b1 z hz;omega] at e
    cases e
   ·exact q
   ·have e:=h (key y)
    rw [iH,if_neg (by omega),dA.below (fun z hz=>by have:=a1 z hz;omega),iH,if_pos rfl] at e
    cases e
  have e:=h (key x);rw [iH,if_pos rfl,iH,if_pos xy.symm] at e;cases e;have:a=b:=dA.eq a2 b2 fun k=>by
   have e:=h k;rw [iH,iH] at e;by_cases q:key x=k
   ·subst q
    rw [dA.below a1,dA.below b1]
   ·rw [if_neg q,if_neg q] at e
    exact e
  rw [this]
def gG (key:α->Int) (k:Int):List (List α)->Option α
 | []=>none
 | l::r=>match look key k l with
  | some x=>some x
  | none=>gG key k r
theorem dA.pass {k:Int} {l:List α} (h:dA key l):dA key (pass key k l):=by
 cases l with
 | nil=>exact h
 | cons x l=>rw [pj];split;exact (List.pairwise_cons.1 h).2;exact h
theorem aaz {k:Int} {l:List α} (h:dA key l) (hk:∀ y t,l=y::t->k<=key y):∀ y∈pass key k l,k<key y:=by
 cases l with
 | nil=>intro y hy;cases hy
 | cons x l =>
  obtain ⟨h1,h2⟩:=List.pairwise_cons.1 h;have:=hk x l rfl;rw [pj];split
  ·intro y hy;have:=h1 y hy;omega
  ·intro y hy
   rcases List.mem_cons.1 hy with rfl | q
   ·omega
   ·have:=h1 y q;omega
theorem aaA {k k':Int} {l:List α} (n:k'≠k):look key k' (pass key k l)=look key k' l:=by
 cases l with
 | nil=>rfl
 | cons x l =>
  rw [pj];split
  ·rename_i e
   rw [iH,if_neg (by omega)]
  ·rfl
theorem Nd {k k':Int} (n:k'≠k):∀ ls:List (List α),gG key k' (ls.map (pass key k))=gG key k' ls
 | []=>rfl
 | l::r=>by simp only [List.map_cons,gG,aaA n,Nd n r]
theorem Nf {k:Int}:∀ {ls:List (List α)},(∀ l∈ls,look key k l=none)->gG key k ls=none
 | [],_=>rfl
 | l::r,h=>by simp only [gG,h l (List.mem_cons_self ..)];exact Nf fun l hl=>h l (List.mem_cons_of_mem _ hl)
theorem Ng {k:Int} (b:List (List α)):∀ a:List (List α),(∀ l∈a,look key k l=none)->gG key k (a++b)=gG key k b
 | [],_=>rfl
 | l::r,h=>by simp only [List.cons_append,gG,h l (List.mem_cons_self ..)];exact Ng b r fun l hl=>h l (List.mem_cons_of_mem _ hl)
theorem Mg.once {ls:List (List α)} {out:List α} (h:Mg key ls out) (rs:∀ l∈ls,dA key l):dA key out/\∀ k,look key k out=gG key k ls:=by
 induction h using Mg.ind with
 | done e =>
  refine ⟨List.Pairwise.nil,fun k=>?_⟩
  rw [Nf fun l hl=>by rw [vF.1 e l hl];rfl]
  rfl
 | @step ls x out e r ih =>
  obtain ⟨a,l,b,el,h1,h2⟩:=vG e;obtain ⟨q1,q2⟩:=ih fun l' ig=>by
   obtain ⟨l,hl,rfl⟩:=List.mem_map.1 ig;exact (rs l hl).pass
  have ab:∀ y∈out,key x<key y:=fun y hy=>by
   have hs:look key (key y) out=some y:=by
    have:∀ (o:List α),dA key o->y∈o->look key (key y) o=some y:=by
     intro o;induction o with
     | nil=>intro _ h;cases h
     | cons z o ih =>
      intro hr hy;obtain ⟨z1,z2⟩:=List.pairwise_cons.1 hr;rw [iH];rcases List.mem_cons.1 hy with rfl | q
      ·rw [if_pos rfl]
      ·have:=z1 y q
       rw [if_neg (by omega)]
       exact ih z2 q
    exact this out q1 hy
   rw [q2] at hs;have:∀ zB:List (List α),(∀ l∈zB,∀ z∈l,key x<key z)->∀ z,gG key (key y) zB=some z->key x<key y:=by
    intro zB;induction zB with
    | nil=>intro _ z hz;cases hz
    | cons l' r' ih' =>
     intro hl z hz;simp only [gG] at hz;cases hh:look key (key y) l' with
     | some u =>
      have hm:=List.mem_of_find?_eq_some hh;have:=hl l' (List.mem_cons_self ..) u hm;have:=Nc hh;omega
     | none =>
      rw [hh] at hz;exact ih' (fun l ig=>hl l (List.mem_cons_of_mem _ ig)) z hz
   refine this _ (fun l' ig=>?_) y hs
   obtain ⟨l,hl,rfl⟩:=List.mem_map.1 ig;exact aaz (rs l hl) fun y t e=>h2 y t (by rw [<-e];exact hl)
  refine ⟨List.pairwise_cons.2 ⟨ab,q1⟩,fun k=>?_⟩
  rw [iH];by_cases ek:key x=k
  ·rw [if_pos ek]
   subst ek;rw [el,Ng]
   ·simp only [gG,iH,if_true]
   ·intro l' ig
    cases l' with
    | nil=>rfl
    | cons y t =>
     have h3:=h1 y t ig;refine dA.below fun z hz=>?_
     have hr:=rs (y::t) (by rw [el];exact List.mem_append_left _ ig)
     rcases List.mem_cons.1 hz with rfl | q
     ·exact h3
     ·have:=(List.pairwise_cons.1 hr).1 z q
      omega
  ·rw [if_neg ek,q2,Nd (Ne.symm ek)]
theorem dA.filter {l:List α} (h:dA key l) (p:α->Bool):dA key (l.filter p):=List.Pairwise.filter p h
theorem zC {β:Type} (f:α->β) (jc:β->Int) {S:α->Prop} (hk:∀ x,S x->jc (f x)=key x):∀ ls:List (List α),(∀ l∈ls,∀ x∈l,S x)->cJ jc (ls.map (List.map f))=(cJ key ls).map f/\∀ x,cJ key ls=some x->S x
 | [],_=>⟨rfl,fun x h=>by cases h⟩
 | []::r,h=>by simp only [List.map_cons,List.map_nil,cJ];exact zC f jc hk r fun l hl=>h l (List.mem_cons_of_mem _ hl)
 | (x::l)::r,h=>by
  obtain ⟨e1,e2⟩:=zC f jc hk r fun l hl=>h l (List.mem_cons_of_mem _ hl)
  have sx:S x:=h _ (List.mem_cons_self ..) x (List.mem_cons_self ..);simp only [List.map_cons,cJ];rw [e1];cases hh:cJ key r with
  | none=>exact ⟨rfl,fun y hy=>by cases hy;exact sx⟩
  | some y =>
   have sy:=e2 y hh;simp only [Option.map_some,hk x sx,hk y sy];refine ⟨by split<;>rfl,fun z hz=>?_⟩
   split at hz
   ·cases hz;exact sy
   ·cases hz;exact sx
theorem Nh {k:Int} {l:List α} {x:α} (h:x∈pass key k l):x∈l:=by
 cases l with
 | nil=>exact h
 | cons y l =>
  rw [pj] at h;split at h
  ·exact List.mem_cons_of_mem _ h
  ·exact h
theorem aaB {β:Type} (f:α->β) (jc:β->Int) {S:α->Prop} (hk:∀ x,S x->jc (f x)=key x) (k:Int) (l:List α) (h:∀ x∈l,S x):pass jc k (l.map f)=(pass key k l).map f:=by
 cases l with
 | nil=>rfl
 | cons x l =>
  rw [List.map_cons,pj,pj,hk x (h x (List.mem_cons_self ..))];split<;>rfl
theorem Mg.map' {β:Type} (f:α->β) (jc:β->Int) {S:α->Prop} (hk:∀ x,S x->jc (f x)=key x) {ls:List (List α)} {o:List α} (h:Mg key ls o) (hs:∀ l∈ls,∀ x∈l,S x):Mg jc (ls.map (List.map f)) (o.map f):=by
 induction h using Mg.ind with
 | done e=>exact .done (by rw [(zC f jc hk _ hs).1,e];rfl)
 | @step ls x out e r ih =>
  obtain ⟨e1,e2⟩:=zC f jc hk _ hs;have sx:=e2 x e;refine .step (x:=f x) (by rw [e1,e];rfl) ?_
  rw [hk x sx];have:(ls.map (List.map f)).map (pass jc (key x))=(ls.map (pass key (key x))).map (List.map f):=by
   rw [List.map_map,List.map_map];refine List.map_congr_left fun l hl=>?_
   exact aaB f jc hk _ l (hs l hl)
  rw [this];refine ih fun l' ig y hy=>?_
  obtain ⟨l,hl,rfl⟩:=List.mem_map.1 ig;exact hs l hl y (Nh hy)
theorem aaC {ls:List (List α)} {f:Nat} {x:α} {l:List α} (hf:ls[f]?=some (x::l)) (h1:∀ i y t,i<f->ls[i]?=some (y::t)->key x<key y) (h2:∀ (i:Nat) y t,ls[i]?=some (y::t)->key x<=key y):cJ key ls=some x:=by
 cases h:cJ key ls with
 | none=>have:=vF.1 h (x::l) (List.mem_of_getElem? hf);cases this
 | some y =>
  obtain ⟨a,l',b,e,q1,q2⟩:=vG h;have ea:ls[a.length]?=some (y::l'):=by rw [e];simp
  rcases Nat.lt_trichotomy a.length f with c | c | c
  ·have h3:=h1 a.length y l' c ea
   have h4:=q2 x l (List.mem_of_getElem? hf);omega
  ·rw [c,hf] at ea
   cases ea
   rfl
  ·have hm:(x::l)∈a:=by
    rw [e,List.getElem?_append_left c] at hf;exact List.mem_of_getElem? hf
   have h3:=q1 x l hm;have h4:=h2 a.length y l' ea;omega
end
def jd (len a:Nat->Nat) (i:Nat):List (Nat×Nat):=(List.range' (a i) (len i-a i)).map fun j=>(i,j)
def dX (ln:Nat) (len a:Nat->Nat):List (List (Nat×Nat)):=(List.range ln).map (jd len a)
theorem zD (ln:Nat) (len a:Nat->Nat) (i:Nat):(dX ln len a)[i]?=if i<ln then some (jd len a i) else none:=by
 unfold dX;rw [List.getElem?_map];by_cases h:i<ln
 ·rw [if_pos h,List.getElem?_range h];rfl
 ·rw [if_neg h,List.getElem?_eq_none (by simpa using h)];rfl
theorem DG {len a:Nat->Nat} {i:Nat} (h:¬ a i<len i):jd len a i=[]:=by
 unfold jd;rw [show len i-a i=0 by omega]
 rfl
theorem DH {len a:Nat->Nat} {i:Nat} (h:a i<len i):jd len a i=(i,a i)::(List.range' (a i+1) (len i-(a i+1))).map fun j=>(i,j):=by
 unfold jd;rw [show len i-a i=(len i-(a i+1))+1 by omega,List.range'_succ]
 rfl
theorem Ni {len a:Nat->Nat} {i:Nat} {y:Nat×Nat} {t:List (Nat×Nat)} (h:jd len a i=y::t):a i<len i/\y=(i,a i):=by
 by_cases q:a i<len i
 ·rw [DH q] at h
  cases h
  exact ⟨q,rfl⟩
 ·rw [DG q] at h
  cases h
def ij (key:Nat×Nat->Int) (k:Int) (len a:Nat->Nat) (i:Nat):Nat:=if a i<len i/\key (i,a i)=k then a i+1 else a i
theorem Nj {key:Nat×Nat->Int} {k:Int} {len a:Nat->Nat} {i:Nat} (h:a i<len i/\key (i,a i)=k):ij key k len a i=a i+1:=if_pos h
theorem DI {key:Nat×Nat->Int} {k:Int} {len a:Nat->Nat} {i:Nat} (h:¬ (a i<len i/\key (i,a i)=k)):ij key k len a i=a i:=if_neg h
theorem aaD (key:Nat×Nat->Int) (k:Int) (len a:Nat->Nat) (i:Nat):pass key k (jd len a i)=jd len (ij key k len a) i:=by
 by_cases q:a i<len i
 ·rw [DH q,pj]
  by_cases e:key (i,a i)=k
  ·rw [if_pos e]
   unfold jd;rw [Nj ⟨q,e⟩]
  ·rw [if_neg e]
   unfold jd;rw [DI (fun x=>e x.2),show len i-a i=(len i-(a i+1))+1 by omega,List.range'_succ]
   rfl
 ·rw [DG q]
  unfold jd;rw [DI (fun x=>q x.1),show len i-a i=0 by omega]
  rfl
theorem aaE (key:Nat×Nat->Int) (k:Int) (ln:Nat) (len a:Nat->Nat):(dX ln len a).map (pass key k)=dX ln len (ij key k len a):=by
 unfold dX;rw [List.map_map];exact List.map_congr_left fun i _=>aaD key k len a i
theorem aaF {key:Nat×Nat->Int} {ln:Nat} {len a:Nat->Nat} (h:∀ i,i<ln->¬ a i<len i):cJ key (dX ln len a)=none:=by
 refine vF.2 fun l hl=>?_
 obtain ⟨i,hi,rfl⟩:=List.mem_map.1 hl;exact DG (h i (List.mem_range.1 hi))
theorem aaG {key:Nat×Nat->Int} {ln:Nat} {len a:Nat->Nat} {f:Nat} (hf:f<ln) (h0:a f<len f) (h1:∀ i,i<f->a i<len i->key (f,a f)<key (i,a i)) (h2:∀ i,i<ln->a i<len i->key (f,a f)<=key (i,a i)):cJ key (dX ln len a)=some (f,a f):=by
 refine aaC (f:=f) (by rw [zD,if_pos hf,DH h0]) (fun i y t hi e=>?_) (fun i y t e=>?_)
 ·rw [zD,if_pos (by omega)] at e
  obtain ⟨q,rfl⟩:=Ni (Option.some.inj e);exact h1 i hi q
 ·rw [zD] at e
  by_cases hi:i<ln
  ·rw [if_pos hi] at e
   obtain ⟨q,rfl⟩:=Ni (Option.some.inj e);exact h2 i hi q
  ·rw [if_neg hi] at e
   cases e
theorem Nk {α:Type} (L:List (List α)) (d:α):(dX L.length (fun i=>(L.getD i []).length) (fun _=>0)).map (List.map fun p=>(L.getD p.1 []).getD p.2 d)=L:=by
 refine List.ext_getElem? fun i=>?_
 rw [List.getElem?_map,zD];by_cases h:i<L.length
 ·rw [if_pos h,List.getElem?_eq_getElem h]
  show some _=_;congr 1;have e:L.getD i []=L[i]:=by simp [List.getD,h]
  refine List.ext_getElem? fun j=>?_
  unfold jd;rw [List.map_map,List.getElem?_map];by_cases q:j<L[i].length
  ·have q':j<(L.getD i []).length-0:=by rw [e];omega
   rw [List.getElem?_range' q',List.getElem?_eq_getElem q];show some ((L.getD i []).getD (0+1*j) d)=_;rw [e,show 0+1*j=j by omega]
   simp [List.getD,q]
  ·rw [List.getElem?_eq_none (by rw [List.length_range'];show (L.getD i []).length-0<=j;rw [e];omega),List.getElem?_eq_none (by omega)]
   rfl
 ·rw [if_neg h,List.getElem?_eq_none (by omega)]
  rfl
open Go.RowKit
structure KV (w:World) (ao:Option Addr) (K:List (List Int)):Prop where
 cells:0<K.length->∃ b off,ao=some ⟨b,off,none⟩/\b<w.heap.size/\∀ i,i<K.length->∃ bo c,w.cell? ⟨b,off+i,none⟩=some (.slice bo (K.getD i []).length c)/\KS w bo (K.getD i []).length (fun j=>(K.getD i []).getD j 0)
theorem KV.gw {w w':World} {ao:Option Addr} {K:List (List Int)} (h:KV w ao K) (g:Gw w w'):KV w' ao K :=
 ⟨fun h0=>by
  obtain ⟨b,off,e,hb,hc⟩:=h.cells h0;refine ⟨b,off,e,Nat.lt_of_lt_of_le hb g.size,fun i hi=>?_⟩
  obtain ⟨bo,c,h1,h2⟩:=hc i hi;exact ⟨bo,c,(g.cell _ _ hb).trans h1,h2.gw g⟩⟩
def AT (w:World) (b n:Nat) (a:Nat->Nat):Prop:=∃ cur,w.heap[b]?=some (.cells cur 3 (0,0))/\cur.size=n/\∀ i,i<n->cur[i]?=some (.int .i64 ((a i:Nat):Int))
theorem AT.lt {w:World} {b n:Nat} {a:Nat->Nat} (h:AT w b n a):b<w.heap.size:=by
 obtain ⟨cur,h1,_⟩:=h;exact (Array.getElem?_eq_some_iff.1 h1).1
theorem AT.keep {w w':World} {b n:Nat} {a:Nat->Nat} (h:AT w b n a) (k:w'.heap[b]?=w.heap[b]?):AT w' b n a:=by
 obtain ⟨cur,h1,h2⟩:=h;exact ⟨cur,k.trans h1,h2⟩
theorem AT.gw {w w':World} {b n:Nat} {a:Nat->Nat} (h:AT w b n a) (g:Gw w w'):AT w' b n a:=h.keep (g.below.block b h.lt)
theorem AT.cell {w:World} {b n:Nat} {a:Nat->Nat} (h:AT w b n a) {i:Nat} (hi:i<n):w.cell? ⟨b,i,none⟩=some (.int .i64 ((a i:Nat):Int)):=by
 obtain ⟨cur,h1,_,h3⟩:=h;simp [World.cell?,h1,h3 i hi]
theorem AT.frozen {w:World} {b n:Nat} {a:Nat->Nat} (h:AT w b n a) (i:Nat):w.frozen? ⟨b,i,none⟩=false:=by
 obtain ⟨cur,h1,_,_⟩:=h;simp [World.frozen?,h1]
theorem AT.set {w:World} {b n:Nat} {a a':Nat->Nat} (h:AT w b n a) {i:Nat} (hi:i<n) (e:∀ j,j<n->a' j=if j=i then a' i else a j):AT (w.setCell ⟨b,i,none⟩ (.int .i64 ((a' i:Nat):Int))) b n a':=by
 obtain ⟨cur,h1,h2,h3⟩:=h;refine ⟨cur.setIfInBounds i (.int .i64 ((a' i:Nat):Int)),?_,by simpa using h2,fun j hj=>?_⟩
 ·simp [World.setCell,Array.getElem?_modify,h1]
 ·by_cases q:j=i
  ·subst q
   simp [h2,hj]
  ·have:=e j hj
   rw [if_neg q] at this;rw [this,Array.getElem?_setIfInBounds_ne (Ne.symm q)];exact h3 j hj
theorem AT.congr {w:World} {b n:Nat} {a a':Nat->Nat} (h:AT w b n a) (e:∀ j,j<n->a j=a' j):AT w b n a':=by
 obtain ⟨cur,h1,h2,h3⟩:=h;exact ⟨cur,h1,h2,fun i hi=>by rw [<-e i hi];exact h3 i hi⟩
theorem aaH:(prog.info? 3).map (fun i=>(i.zero,i.size,i.bytes))=some (some (.int .i64 0),1,8):=by kernel_rfl
theorem Nl (m:Nat) (z:Int) (hz:z=(m:Int)) (hm:m<=281474976710) (w:World) :
  (Instr.makeSlice 69 (.int .i64 z) (.int .i64 z)).run prog w=.ok (.slice (some ⟨w.heap.size,0,none⟩) m m) (w.alloc (.cells (madeCells #[.int .i64 0] m) 3)):=by
 obtain ⟨i,hi,mA,hs,hb⟩:=info_parts aaH;subst hz;exact run_make_row (P:=prog) 69 3 i (.int .i64 0) underlying69 hi mA hs rfl .i64 .i64 m (by rw [hb];omega) (by omega) w
theorem aaI (w:World) (m:Nat):AT (w.alloc (.cells (madeCells #[.int .i64 0] m) 3)) w.heap.size m (fun _=>0):=by
 refine ⟨_,heap_alloc_new w _,by simp [madeCells],fun i hi=>?_⟩
 simp [madeCells,hi,Nat.mod_one]
def jH (p:Nat×Nat):List Value:=[.int .i64 (p.1:Int),.int .i64 (p.2:Int)]
theorem aaJ (s:Nat×Nat):∀ u∈jH s,u.oneCell'=true:=by
 intro u hu;simp only [jH,List.mem_cons,List.not_mem_nil,or_false] at hu;rcases hu with rfl | rfl<;>rfl
theorem aaK:(prog.info? 119).map (fun i=>(i.zero,i.size,i.bytes))=some (some (.agg #[.int .i64 0,.int .i64 0]),2,16):=by kernel_rfl
def ik (w:World) (base:Nat) (v:Value) (P:List (Nat×Nat)):Prop:=w.ownsRow base 119 2 v P.length (P.flatMap jH)
theorem qT {w w':World} {base:Nat} {v:Value} {P:List (Nat×Nat)} (h:ik w base v P) (g:Gw w w'):ik w' base v P:=by
 refine ⟨h.1,?_⟩;rcases h.2 with q | ⟨b,cap,cur,rfl,hb,hh,r⟩
 ·exact .inl q
 ·exact .inr ⟨b,cap,cur,rfl,hb,(g.below.block b (Array.getElem?_eq_some_iff.1 hh).1).trans hh,r⟩
theorem aaL {w w':World} {base:Nat} {v:Value} {P:List (Nat×Nat)} (h:ik w base v P) (k:∀ q,v.ownBlock=some q->w'.heap[q]?=w.heap[q]?):ik w' base v P:=by
 refine ⟨h.1,?_⟩;rcases h.2 with q | ⟨b,cap,cur,rfl,hb,hh,r⟩
 ·exact .inl q
 ·exact .inr ⟨b,cap,cur,rfl,hb,(k b rfl).trans hh,r⟩
theorem aaM (w:World) (p:Nat×Nat):∀ j u,(jH p)[j]?=some u->(w.alloc (.cells #[.int .i64 (p.1:Int),.int .i64 (p.2:Int)] 119)).cell? ((⟨w.heap.size,0,none⟩:Addr).add j)=some u:=by
 intro j u hu
 match j,hu with
 | 0,hu =>
  simp [jH] at hu
  subst hu;simp [Addr.add,go_sem]
 | 1,hu =>
  simp [jH] at hu
  subst hu;simp [Addr.add,go_sem]
 | j+2,hu=>simp [jH] at hu
theorem aaN:∀ (l:List (Nat×Nat)) (i:Nat),i<l.length->∀ j,j<2->(l.flatMap jH)[i*2+j]?=(jH (l.getD i (0,0)))[j]?:=by
 intro l;induction l with
 | nil=>intro i hi;simp at hi
 | cons s l ih =>
  intro i hi j hj;rw [List.flatMap_cons];cases i with
  | zero =>
   rw [Nat.zero_mul,Nat.zero_add,List.getElem?_append_left (by show j<2;exact hj)]
   rfl
  | succ i =>
   have e:(i+1)*2+j=i*2+j+2:=by omega
   rw [e,List.getElem?_append_right (by show 2<=_;omega),show i*2+j+2-(jH s).length=i*2+j by show i*2+j+2-2=_;omega]
   exact ih i (by simpa using hi) j hj
theorem aaO {w:World} {base b cap:Nat} {P:List (Nat×Nat)} (h:ik w base (.slice (some ⟨b,0,none⟩) P.length cap) P) {i:Nat} (hi:i<P.length):w.cell? ⟨b,i*2,none⟩=some (.int .i64 ((P.getD i (0,0)).1:Int))/\w.cell? ⟨b,i*2+1,none⟩=some (.int .i64 ((P.getD i (0,0)).2:Int)):=by
 have c:∀ j,j<2->w.cell? ⟨b,i*2+j,none⟩=(jH (P.getD i (0,0)))[j]?:=fun j hj=>by
  have:=World.ownsRow.cellAt h (i*2+j) (by omega)
  rw [this];exact aaN P i hi j hj
 exact ⟨c 0 (by decide),c 1 (by decide)⟩
end Go.Proofs.YtklkpldicbkjeaaGreat
