import Derived.Test.YtaemofgeciklkaaGreatEA
set_option linter.unusedVariables false
namespace Go.Proofs.YtaemofgeciklkaaGreat
section
variable {α:Type} (key:α->Int)
def dd:List (List α)->Option α
 | []=>none
 | []::r=>dd r
 | (x::_)::r=>match dd r with
  | none=>some x
  | some y=>if key y<key x then some y else some x
def pass (k:Int):List α->List α
 | []=>[]
 | x::l=>if key x=k then l else x::l
def Mg:List (List α)->List α->Prop
 | ls,[]=>dd key ls=none
 | ls,x::out=>dd key ls=some x/\Mg (ls.map (pass key (key x))) out
variable {key}
theorem Mg.done {ls:List (List α)} (h:dd key ls=none):Mg key ls []:=by unfold Mg;exact h
theorem Mg.step {ls:List (List α)} {x:α} {out:List α} (h:dd key ls=some x) (r:Mg key (ls.map (pass key (key x))) out):Mg key ls (x::out):=by unfold Mg;exact ⟨h,r⟩
theorem Mg.ind {motive:(ls:List (List α))->(out:List α)->Mg key ls out->Prop} (done:∀ {ls:List (List α)} (h:dd key ls=none),motive ls [] (Mg.done h)) (step:∀ {ls:List (List α)} {x:α} {out:List α} (h:dd key ls=some x) (r:Mg key (ls.map (pass key (key x))) out) (ih:motive _ out r),motive ls (x::out) (Mg.step h r)):∀ {ls:List (List α)} {out:List α} (h:Mg key ls out),motive ls out h:=by
 intro ls out;induction out generalizing ls with
 | nil=>intro h;exact done (by unfold Mg at h;exact h)
 | cons x out ih =>
  intro h;have h':=h;unfold Mg at h';exact step h'.1 h'.2 (ih h'.2)
theorem Mg.one {ls:List (List α)} {a b:List α} (h:Mg key ls a) (h':Mg key ls b):a=b:=by
 induction h using Mg.ind generalizing b with
 | done e =>
  cases b with
  | nil=>rfl
  | cons y b=>unfold Mg at h';rw [e] at h';cases h'.1
 | step e _ ih =>
  cases b with
  | nil=>unfold Mg at h';rw [e] at h';cases h'
  | cons y b =>
   unfold Mg at h';have q:=h'.1;rw [e] at q;cases q;rw [ih h'.2]
def aN (ls:List (List α)):Nat:=(ls.map List.length).sum
theorem jb (l:List α) (ls:List (List α)):aN (l::ls)=l.length+aN ls:=by simp [aN]
theorem rB (k:Int) (x:α) (l:List α):pass key k (x::l)=if key x=k then l else x::l:=rfl
theorem acp (k:Int) (l:List α):(pass key k l).length<=l.length:=by
 cases l with
 | nil=>exact Yk _
 | cons x l=>rw [rB];split<;>simp
theorem Qq (k:Int) (ls:List (List α)):aN (ls.map (pass key k))<=aN ls:=by
 induction ls with
 | nil=>exact Yk _
 | cons l ls ih=>rw [qaw,jb,jb];have:=acp (key:=key) k l;omega
theorem yE {ls:List (List α)}:dd key ls=none↔∀ l∈ls,l=[]:=by
 induction ls with
 | nil=>simp [dd]
 | cons l ls ih =>
  cases l with
  | nil=>simp [dd,ih]
  | cons x l =>
   simp only [dd];constructor
   ·intro h;split at h
    ·cases h
    ·split at h<;>cases h
   ·intro h;have:=h _ (qat ..);cases this
theorem yF {ls:List (List α)} {x:α} (h:dd key ls=some x):∃ a l b,ls=a++(x::l)::b/\(∀ y t,y::t∈a->key x<key y)/\(∀ y t,y::t∈ls->key x<=key y):=by
 induction ls generalizing x with
 | nil=>simp [dd] at h
 | cons l ls ih =>
  cases l with
  | nil =>
   obtain ⟨a,l',b,e,h1,h2⟩:=ih (by simpa [dd] using h)
   refine ⟨[]::a,l',b,by simp [e],fun y t hy=>?_,fun y t hy=>?_⟩
   ·rcases qaf.1 hy with q | q
    ·cases q
    ·exact h1 y t q
   ·rcases qaf.1 hy with q | q
    ·cases q
    ·exact h2 y t q
  | cons z l =>
   simp only [dd] at h;split at h
   ·rename_i hn
    cases h
    refine ⟨[],l,ls,rfl,(fun y t hy=>by cases hy),fun y t hy=>?_⟩
    rcases qaf.1 hy with q | q
    ·cases q;exact qaH _
    ·have:=yE.1 hn _ q;cases this
   ·rename_i y hy
    obtain ⟨a,l',b,e,h1,h2⟩:=ih hy;split at h
    ·rename_i lt
     cases h
     refine ⟨(z::l)::a,l',b,by simp [e],fun y' t iB=>?_,fun y' t iB=>?_⟩
     ·rcases qaf.1 iB with q | q
      ·cases q;exact lt
      ·exact h1 y' t q
     ·rcases qaf.1 iB with q | q
      ·cases q;exact Int.le_of_lt lt
      ·exact h2 y' t q
    ·rename_i ge
     cases h
     refine ⟨[],l,ls,rfl,(fun y t hy=>by cases hy),fun y' t iB=>?_⟩
     rcases qaf.1 iB with q | q
     ·cases q;exact qaH _
     ·have:=h2 y' t q;omega
theorem rC (a b:List (List α)):aN (a++b)=aN a+aN b:=by simp [aN]
theorem Ib {ls:List (List α)} {x:α} (h:dd key ls=some x):aN (ls.map (pass key (key x)))<aN ls:=by
 obtain ⟨a,l,b,e,_,_⟩:=yF h;rw [e,qaV,qaw,rC,rC,jb,jb];have h1:=Qq (key:=key) (key x) a;have h2:=Qq (key:=key) (key x) b;have h3:(pass key (key x) (x::l)).length=l.length:=by simp [pass]
 rw [h3];simp;omega
theorem Mg.ex (key:α->Int):∀ (n:Nat) (ls:List (List α)),aN ls<=n->∃ out,Mg key ls out
 | n,ls,hn=>by
  cases h:dd key ls with
  | none=>exact ⟨[],.done h⟩
  | some x =>
   have:=Ib h
   match n,hn with
   | 0,hn=>omega
   | n+1,hn =>
    obtain ⟨out,r⟩:=Mg.ex key n (ls.map (pass key (key x))) ω;exact ⟨_,.step h r⟩
theorem Mg.few {ls:List (List α)} {out:List α} (h:Mg key ls out):out.length<=aN ls:=by
 induction h using Mg.ind with
 | done _=>exact Γ _
 | step e _ ih=>have:=Ib e;simp;omega
def aH (key:α->Int) (l:List α):Prop:=l.Pairwise fun a b=>key a<key b
def look (key:α->Int) (k:Int) (l:List α):Option α:=l.find? fun x=>key x == k
theorem look_nil (k:Int):look key k []=none:=rfl
theorem de (k:Int) (x:α) (l:List α):look key k (x::l)=if key x=k then some x else look key k l:=by
 unfold look;rw [List.find?_cons];by_cases h:key x=k
 ·simp [h]
 ·rw [Yl h,show (key x == k)=false by simpa using h]
variable {k:Int}
theorem Ch {l:List α} {x:α} (h:look key k l=some x):key x=k:=by
 have:=List.find?_some h
 simpa using this
theorem aH.below {l:List α} (h:∀ x∈l,k<key x):look key k l=none:=by unfold look;rw [List.find?_eq_none];intro x hx;have:=h x hx;simp;omega
theorem aH.eq:∀ {a b:List α},aH key a->aH key b->(∀ k,look key k a=look key k b)->a=b
 | [],[],_,_,_=>rfl
 | [],y::b,_,_,h=>by have:=h (key y);rw [look_nil,de,Ym rfl] at this;cases this
 | x::a,[],_,_,h=>by have:=h (key x);rw [look_nil,de,Ym rfl] at this;cases this
 | x::a,y::b,ha,hb,h=>by
  obtain ⟨a1,a2⟩:=List.pairwise_cons.1 ha;obtain ⟨b1,b2⟩:=List.pairwise_cons.1 hb;have xy:key x=key y:=by
   rcases Int.lt_trichotomy (key x) (key y) with q | q | q
   ·have e:=h (key x)
    rw [de,Ym rfl,de,Yl ω,aH.below fun z hz=>by have:=b1 z hz;omega] at e
    cases e
   ·exact q
   ·have e:=h (key y)
    rw [de,Yl ω,aH.below (fun z hz=>by have:=a1 z hz;omega),de,Ym rfl] at e
    cases e
  have e:=h (key x);rw [de,Ym rfl,de,Ym xy.symm] at e;cases e;have:a=b:=aH.eq a2 b2 fun k=>by
   have e:=h k;rw [de,de] at e;by_cases q:key x=k
   ·subst q
    rw [aH.below a1,aH.below b1]
   ·rw [Yl q,Yl q] at e
    exact e
  rw [this]
def df (key:α->Int) (k:Int):List (List α)->Option α
 | []=>none
 | l::r=>match look key k l with
  | some x=>some x
  | none=>df key k r
theorem aH.pass {l:List α} (h:aH key l):aH key (pass key k l):=by
 cases l with
 | nil=>exact h
 | cons x l=>rw [rB];split;exact (List.pairwise_cons.1 h).2;exact h
theorem acq {l:List α} (h:aH key l) (hk:∀ y t,l=y::t->k<=key y):∀ y∈pass key k l,k<key y:=by
 cases l with
 | nil=>intro y hy;cases hy
 | cons x l =>
  obtain ⟨h1,h2⟩:=List.pairwise_cons.1 h;have:=hk x l rfl;rw [rB];split
  ·intro y hy;have:=h1 y hy;omega
  ·intro y hy
   rcases qaf.1 hy with rfl | q
   ·omega
   ·have:=h1 y q;omega
theorem acr {k':Int} {l:List α} (n:k'≠k):look key k' (pass key k l)=look key k' l:=by
 cases l with
 | nil=>rfl
 | cons x l =>
  rw [rB];split
  ·rename_i e
   rw [de,Yl ω]
  ·rfl
theorem Qr {k':Int} (n:k'≠k):∀ ls:List (List α),df key k' (ls.map (pass key k))=df key k' ls
 | []=>rfl
 | l::r=>by simp only [qaw,df,acr n,Qr n r]
theorem Qs:∀ {ls:List (List α)},(∀ l∈ls,look key k l=none)->df key k ls=none
 | [],_=>rfl
 | l::r,h=>by simp only [df,h l (qat ..)];exact Qs fun l hl=>h l (qay _ hl)
theorem Qt (b:List (List α)):∀ a:List (List α),(∀ l∈a,look key k l=none)->df key k (a++b)=df key k b
 | [],_=>rfl
 | l::r,h=>by simp only [List.cons_append,df,h l (qat ..)];exact Qt b r fun l hl=>h l (qay _ hl)
theorem Mg.once {ls:List (List α)} {out:List α} (h:Mg key ls out) (rs:∀ l∈ls,aH key l):aH key out/\∀ k,look key k out=df key k ls:=by
 induction h using Mg.ind with
 | done e =>
  refine ⟨List.Pairwise.nil,fun k=>?_⟩
  rw [Qs fun l hl=>by rw [yE.1 e l hl];rfl]
  rfl
 | @step ls x out e r ih =>
  obtain ⟨a,l,b,el,h1,h2⟩:=yF e;obtain ⟨q1,q2⟩:=ih fun l' dw=>by obtain ⟨l,hl,rfl⟩:=qaA.1 dw;exact (rs l hl).pass
  have ab:∀ y∈out,key x<key y:=fun y hy=>by
   have hs:look key (key y) out=some y:=by
    have:∀ (o:List α),aH key o->y∈o->look key (key y) o=some y:=by
     intro o;induction o with
     | nil=>intro _ h;cases h
     | cons z o ih =>
      intro hr hy;obtain ⟨z1,z2⟩:=List.pairwise_cons.1 hr;rw [de];rcases qaf.1 hy with rfl | q
      ·rw [Ym rfl]
      ·have:=z1 y q
       rw [Yl ω];exact ih z2 q
    exact this out q1 hy
   rw [q2] at hs;have:∀ Ci:List (List α),(∀ l∈Ci,∀ z∈l,key x<key z)->∀ z,df key (key y) Ci=some z->key x<key y:=by
    intro Ci;induction Ci with
    | nil=>intro _ z hz;cases hz
    | cons l' r' ih' =>
     intro hl z hz;simp only [df] at hz;cases hh:look key (key y) l' with
     | some u =>
      have hm:=List.mem_of_find?_eq_some hh;have:=hl l' (qat ..) u hm;have:=Ch hh;omega
     | none =>
      rw [hh] at hz;exact ih' (fun l dw=>hl l (qay _ dw)) z hz
   refine this _ (fun l' dw=>?_) y hs
   obtain ⟨l,hl,rfl⟩:=qaA.1 dw;exact acq (rs l hl) fun y t e=>h2 y t (by rw [<-e];exact hl)
  refine ⟨List.pairwise_cons.2 ⟨ab,q1⟩,fun k=>?_⟩
  rw [de];by_cases ek:key x=k
  ·rw [Ym ek]
   subst ek;rw [el,Qt]
   ·simp only [df,de,if_true]
   ·intro l' dw
    cases l' with
    | nil=>rfl
    | cons y t =>
     have h3:=h1 y t dw;refine aH.below fun z hz=>?_
     have hr:=rs (y::t) (by rw [el];exact List.mem_append_left _ dw)
     rcases qaf.1 hz with rfl | q
     ·exact h3
     ·have:=(List.pairwise_cons.1 hr).1 z q
      omega
  ·rw [Yl ek,q2,Qr (Ne.symm ek)]
theorem acs {l:List α} (h:aH key l) (p:α->Bool) (k:Int):look key k (l.filter p)=(look key k l).filter p:=by
 induction l with
 | nil=>rfl
 | cons x l ih =>
  obtain ⟨h1,h2⟩:=List.pairwise_cons.1 h;have ih:=ih h2;rw [de,List.filter_cons];by_cases e:key x=k
  ·rw [Ym e]
   by_cases q:p x=true
   ·rw [Ym q,de,Ym e]
    simp [Option.filter,q]
   ·rw [Yl q,ih,aH.below (by rw [<-e];exact h1)]
    simp [Option.filter,q]
  ·rw [Yl e]
   by_cases q:p x=true
   ·rw [Ym q,de,Yl e,ih]
   ·rw [Yl q,ih]
theorem aH.filter {l:List α} (h:aH key l) (p:α->Bool):aH key (l.filter p):=List.Pairwise.filter p h
variable {β:Type}
theorem Cj (f:α->β) (kt:β->Int) {S:α->Prop} (hk:∀ x,S x->kt (f x)=key x):∀ ls:List (List α),(∀ l∈ls,∀ x∈l,S x)->dd kt (ls.map (List.map f))=(dd key ls).map f/\∀ x,dd key ls=some x->S x
 | [],_=>⟨rfl,fun x h=>by cases h⟩
 | []::r,h=>by simp only [qaw,List.map_nil,dd];exact Cj f kt hk r fun l hl=>h l (qay _ hl)
 | (x::l)::r,h=>by
  obtain ⟨e1,e2⟩:=Cj f kt hk r fun l hl=>h l (qay _ hl)
  have sx:S x:=h _ (qat ..) x (qat ..);simp only [qaw,dd];rw [e1];cases hh:dd key r with
  | none=>exact ⟨rfl,fun y hy=>by cases hy;exact sx⟩
  | some y =>
   have sy:=e2 y hh;simp only [Option.map_some,hk x sx,hk y sy];refine ⟨by split<;>rfl,fun z hz=>?_⟩
   split at hz
   ·cases hz;exact sy
   ·cases hz;exact sx
theorem Qu {l:List α} {x:α} (h:x∈pass key k l):x∈l:=by
 cases l with
 | nil=>exact h
 | cons y l =>
  rw [rB] at h;split at h
  ·exact qay _ h
  ·exact h
theorem acu (f:α->β) (kt:β->Int) {S:α->Prop} (hk:∀ x,S x->kt (f x)=key x) (k:Int) (l:List α) (h:∀ x∈l,S x):pass kt k (l.map f)=(pass key k l).map f:=by
 cases l with
 | nil=>rfl
 | cons x l =>
  rw [qaw,rB,rB,hk x (h x (qat ..))];split<;>rfl
theorem Mg.map' (f:α->β) (kt:β->Int) {S:α->Prop} (hk:∀ x,S x->kt (f x)=key x) {ls:List (List α)} {o:List α} (h:Mg key ls o) (hs:∀ l∈ls,∀ x∈l,S x):Mg kt (ls.map (List.map f)) (o.map f):=by
 induction h using Mg.ind with
 | done e=>exact .done (by rw [(Cj f kt hk _ hs).1,e];rfl)
 | @step ls x out e r ih =>
  obtain ⟨e1,e2⟩:=Cj f kt hk _ hs;have sx:=e2 x e;refine .step (x:=f x) (by rw [e1,e];rfl) ?_
  rw [hk x sx];have:(ls.map (List.map f)).map (pass kt (key x))=(ls.map (pass key (key x))).map (List.map f):=by
   rw [List.map_map,List.map_map];refine List.map_congr_left fun l hl=>?_
   exact acu f kt hk _ l (hs l hl)
  rw [this];refine ih fun l' dw y hy=>?_
  obtain ⟨l,hl,rfl⟩:=qaA.1 dw;exact hs l hl y (Qu hy)
theorem acv {ls:List (List α)} {f:Nat} {x:α} {l:List α} (hf:ls[f]?=some (x::l)) (h1:∀ i y t,i<f->ls[i]?=some (y::t)->key x<key y) (h2:∀ (i:Nat) y t,ls[i]?=some (y::t)->key x<=key y):dd key ls=some x:=by
 cases h:dd key ls with
 | none=>have:=yE.1 h (x::l) (List.mem_of_getElem? hf);cases this
 | some y =>
  obtain ⟨a,l',b,e,q1,q2⟩:=yF h;have ea:ls[a.length]?=some (y::l'):=by rw [e];simp
  rcases Nat.lt_trichotomy a.length f with c | c | c
  ·have h3:=h1 a.length y l' c ea
   have h4:=q2 x l (List.mem_of_getElem? hf);omega
  ·rw [c,hf] at ea
   cases ea
   rfl
  ·have hm:(x::l)∈a:=(by rw [e,qau c] at hf;exact List.mem_of_getElem? hf);have h3:=q1 x l hm;have h4:=h2 a.length y l' ea;omega
end
def ku (len a:Nat->Nat) (i:Nat):List (Nat×Nat):=(List.range' (a i) (len i-a i)).map fun j=>(i,j)
def eT (ln:Nat) (len a:Nat->Nat):List (List (Nat×Nat)):=(List.range ln).map (ku len a)
theorem Ck (ln:Nat) (len a:Nat->Nat) (i:Nat):(eT ln len a)[i]?=if i<ln then some (ku len a i) else none:=by
 unfold eT;rw [List.getElem?_map];by_cases h:i<ln
 ·rw [Ym h,List.getElem?_range h];rfl
 ·rw [Yl h,qbb (by simpa using h)];rfl
variable {len a:Nat->Nat} {i:Nat}
theorem Ic (h:¬ a i<len i):ku len a i=[]:=by
 unfold ku;rw [show len i-a i=0 by omega]
 rfl
theorem Ie (h:a i<len i):ku len a i=(i,a i)::(List.range' (a i+1) (len i-(a i+1))).map fun j=>(i,j):=by
 unfold ku;rw [show len i-a i=(len i-(a i+1))+1 by omega,List.range'_succ]
 rfl
theorem Qv {y:Nat×Nat} {t:List (Nat×Nat)} (h:ku len a i=y::t):a i<len i/\y=(i,a i):=by
 by_cases q:a i<len i
 ·rw [Ie q] at h
  cases h
  exact ⟨q,rfl⟩
 ·rw [Ic q] at h
  cases h
def jc (key:Nat×Nat->Int) (k:Int) (len a:Nat->Nat) (i:Nat):Nat:=if a i<len i/\key (i,a i)=k then a i+1 else a i
variable {key:Nat×Nat->Int} {k:Int}
theorem Qw (h:a i<len i/\key (i,a i)=k):jc key k len a i=a i+1:=Ym h
theorem Ig (h:¬ (a i<len i/\key (i,a i)=k)):jc key k len a i=a i:=Yl h
theorem acw (key:Nat×Nat->Int) (k:Int) (len a:Nat->Nat) (i:Nat):pass key k (ku len a i)=ku len (jc key k len a) i:=by
 by_cases q:a i<len i
 ·rw [Ie q,rB]
  by_cases e:key (i,a i)=k
  ·rw [Ym e]
   unfold ku;rw [Qw ⟨q,e⟩]
  ·rw [Yl e]
   unfold ku;rw [Ig (fun x=>e x.2),show len i-a i=(len i-(a i+1))+1 by omega,List.range'_succ]
   rfl
 ·rw [Ic q]
  unfold ku;rw [Ig (fun x=>q x.1),show len i-a i=0 by omega]
  rfl
theorem acx (key:Nat×Nat->Int) (k:Int) (ln:Nat) (len a:Nat->Nat):(eT ln len a).map (pass key k)=eT ln len (jc key k len a):=by unfold eT;rw [List.map_map];exact List.map_congr_left fun i _=>acw key k len a i
theorem acy {ln:Nat} (h:∀ i,i<ln->¬ a i<len i):dd key (eT ln len a)=none:=by
 refine yE.2 fun l hl=>?_
 obtain ⟨i,hi,rfl⟩:=qaA.1 hl;exact Ic (h i (List.mem_range.1 hi))
theorem acz {ln:Nat} {f:Nat} (hf:f<ln) (h0:a f<len f) (h1:∀ i,i<f->a i<len i->key (f,a f)<key (i,a i)) (h2:∀ i,i<ln->a i<len i->key (f,a f)<=key (i,a i)):dd key (eT ln len a)=some (f,a f):=by
 refine acv (f:=f) (by rw [Ck,Ym hf,Ie h0]) (fun i y t hi e=>?_) (fun i y t e=>?_)
 ·rw [Ck,Ym ω] at e
  obtain ⟨q,rfl⟩:=Qv (Option.some.inj e);exact h1 i hi q
 ·rw [Ck] at e
  by_cases hi:i<ln
  ·rw [Ym hi] at e
   obtain ⟨q,rfl⟩:=Qv (Option.some.inj e);exact h2 i hi q
  ·rw [Yl hi] at e
   cases e
theorem Qx {α:Type} (L:List (List α)) (d:α):(eT L.length (fun i=>(L.getD i []).length) (fun _=>0)).map (List.map fun p=>(L.getD p.1 []).getD p.2 d)=L:=by
 refine List.ext_getElem? fun i=>?_
 rw [List.getElem?_map,Ck];by_cases h:i<L.length
 ·rw [Ym h,qah h]
  show some _=_;congr 1;have e:L.getD i []=L[i]:=by simp [List.getD,h]
  refine List.ext_getElem? fun j=>?_
  unfold ku;rw [List.map_map,List.getElem?_map];by_cases q:j<L[i].length
  ·have q':j<(L.getD i []).length-0:=(by rw [e];omega);rw [List.getElem?_range' q',qah q];show some ((L.getD i []).getD (0+1*j) d)=_;rw [e,show 0+1*j=j by omega]
   simp [List.getD,q]
  ·rw [qbb (by rw [List.length_range'];show (L.getD i []).length-0<=j;rw [e];omega),qbb ω]
   rfl
 ·rw [Yl h,qbb ω]
  rfl
section
variable {α:Type} {key:α->Int}
def aV (key:α->Int) (k:Int):List α->Nat
 | []=>0
 | y::l=>if key y<k then aV key k l+1 else 0
def ins (key:α->Int) (x:α):List α->List α
 | []=>[x]
 | y::l=>if key y<key x then y::ins key x l else if key y=key x then x::l else x::y::l
theorem yG (k:Int):∀ l:List α,aV key k l<=l.length
 | []=>Yk _
 | y::l=>by
  have:=yG k l
  unfold aV;split
  ·simp;omega
  ·simp
variable {k:Int}
theorem Cl:∀ {l:List α} {i:Nat},i<=l.length->(∀ t y,t<i->l[t]?=some y->key y<k)->(∀ y,l[i]?=some y->¬ key y<k)->aV key k l=i
 | [],i,hi,_,_=>by simp at hi;subst hi;rfl
 | x::l,0,_,_,h2=>by
  have:=h2 x ε
  unfold aV;rw [Yl this]
 | x::l,i+1,hi,h1,h2=>by
  have:=h1 0 x ω ε
  unfold aV;rw [Ym this,Cl (by simpa using hi) (fun t y ht h=>h1 (t+1) y ω (by simpa using h)) (fun y h=>h2 y (by simpa using h))]
theorem aH.tail {x:α} {l:List α} (h:aH key (x::l)):aH key l:=(List.pairwise_cons.1 h).2
theorem aH.head {x:α} {l:List α} (h:aH key (x::l)):∀ y∈l,key x<key y:=(List.pairwise_cons.1 h).1
theorem Cm:∀ {l:List α},aH key l->look key k l=(match l[aV key k l]? with | some y=>if key y=k then some y else none | none=>none)
 | [],_=>rfl
 | x::l,h=>by
  rw [de];unfold aV;by_cases c:key x<k
  ·rw [Ym c,Yl ω,Cm h.tail]
   simp
  ·rw [Yl c]
   by_cases e:key x=k
   ·simp [e]
   ·rw [Yl e,aH.below fun y hy=>by have:=h.head y hy;omega]
    simp [e]
theorem Qy {l:List α} {y:α} (h:aH key l) (a:l[aV key k l]?=some y) (e:key y=k):look key k l=some y:=by rw [Cm h,a];simp [e]
theorem acA {l:List α} (h:aH key l) (a:∀ y,l[aV key k l]?=some y->key y≠k):look key k l=none:=by
 rw [Cm h];cases q:l[aV key k l]? with
 | none=>rfl
 | some y=>simp [a y q]
theorem Ih {l:List α} {y:α} (h:aH key l) (a:look key k l=some y):l[aV key k l]?=some y/\key y=k:=by
 rw [Cm h] at a;cases q:l[aV key k l]? with
 | none=>rw [q] at a;cases a
 | some z =>
  rw [q] at a;simp only at a;split at a
  ·cases a;exact ⟨rfl,δ⟩
  ·cases a
theorem Cn {l:List α} {y:α} (h:aH key l) (a:look key k l=some y):aV key k l<l.length:=(qaT.1 (Ih h a).1).1
theorem Co {x:α}:∀ {l:List α} {y:α},aH key l->look key (key x) l=some y->ins key x l=l.set (aV key (key x) l) x
 | [],y,_,h=>by cases h
 | z::l,y,r,h=>by
  rw [de] at h;unfold ins aV;by_cases c:key z<key x
  ·rw [Ym c,Ym c]
   rw [Yl ω] at h;rw [List.set_cons_succ,Co r.tail h]
  ·rw [Yl c,Yl c]
   by_cases e:key z=key x
   ·rw [Ym e];rfl
   ·rw [Yl e] at h
    rw [aH.below fun y hy=>by have:=r.head y hy;omega] at h
    cases h
theorem Cp {x:α}:∀ {l:List α},look key (key x) l=none->ins key x l=l.take (aV key (key x) l)++x::l.drop (aV key (key x) l)
 | [],_=>rfl
 | z::l,h=>by
  rw [de] at h;unfold ins aV;by_cases c:key z<key x
  ·rw [Ym c,Ym c]
   rw [Yl ω] at h;rw [Cp h];simp
  ·rw [Yl c,Yl c]
   by_cases e:key z=key x
   ·rw [Ym e] at h;cases h
   ·rw [Yl e];simp
theorem acB {x:α} {l:List α} {y:α} (r:aH key l) (h:look key (key x) l=some y):ins key x l=l.take (aV key (key x) l)++x::l.drop (aV key (key x) l+1):=by rw [Co r h,List.set_eq_take_append_cons_drop,Ym (Cn r h)]
theorem vL {P:α->Prop} {x:α} (hx:P x):∀ {l:List α},(∀ y∈l,P y)->∀ y∈ins key x l,P y
 | [],_,y,hy=>by
  rw [show ins key x []=[x] from rfl] at hy;rw [qbg.1 hy];exact hx
 | z::l,h,y,hy=>by
  unfold ins at hy;split at hy
  ·rcases qaf.1 hy with rfl | q
   ·exact h y (qat ..)
   ·exact vL hx (fun u hu=>h u (qay _ hu)) y q
  ·split at hy
   ·rcases qaf.1 hy with rfl | q
    ·exact hx
    ·exact h y (qay _ q)
   ·rcases qaf.1 hy with rfl | q
    ·exact hx
    ·exact h y q
theorem aH.ins {x:α}:∀ {l:List α},aH key l->aH key (ins key x l)
 | [],_=>List.pairwise_singleton _ _
 | z::l,r=>by
  unfold Go.Proofs.YtaemofgeciklkaaGreat.ins;split
  ·rename_i c
   refine List.pairwise_cons.2 ⟨?_,aH.ins r.tail⟩;exact vL (P:=fun y=>key z<key y) c (fun y hy=>r.head y hy)
  ·rename_i c
   split
   ·rename_i e
    exact List.pairwise_cons.2 ⟨fun y hy=>by have:=r.head y hy;omega,r.tail⟩
   ·rename_i e
    refine List.pairwise_cons.2 ⟨fun y hy=>?_,r⟩
    rcases qaf.1 hy with rfl | q
    ·omega
    ·have:=r.head y q;omega
theorem Qz {x:α}:∀ {l:List α},aH key l->look key k (ins key x l)=if key x=k then some x else look key k l
 | [],_=>by rw [show ins key x []=[x] from rfl,de]
 | z::l,r=>by
  unfold ins;split
  ·rename_i c
   rw [de,de,Qz r.tail];by_cases e:key z=k
   ·rw [Ym e,Ym e,Yl ω]
   ·rw [Yl e,Yl e]
  ·rename_i c
   split
   ·rename_i e
    rw [de,de];by_cases q:key x=k
    ·rw [Ym q,Ym q]
    ·rw [Yl q,Yl q,Yl ω]
   ·rename_i e
    rw [de]
theorem QA {x:α} {l:List α} (h:look key (key x) l=none):(ins key x l).length=l.length+1:=by rw [Cp h,Ψ,qak,qav,qax];have:=yG (key:=key) (key x) l;omega
theorem QB {x:α} {l:List α} {y:α} (r:aH key l) (h:look key (key x) l=some y):(ins key x l).length=l.length:=by rw [Co r h,List.length_set]
theorem vM {x:α} {l:List α} (r:aH key l):(ins key x l).length<=l.length+1:=by
 cases h:look key (key x) l with
 | none=>rw [QA h];exact Yk _
 | some y=>rw [QB r h];exact Nat.le_succ _
end
structure aL (α:Type) where
 b:Nat
 off:Nat
 c:Nat
 l:List α
structure Hd (α:Type) where
 k:Int
 i:Nat
 s:aL α
def Cq {α:Type}:Hd α:=⟨0,0,⟨0,0,0,[]⟩⟩
section
variable {α:Type}
def Hd.lt (a b:Hd α):Prop:=a.k<b.k\/a.k=b.k/\a.i<b.i
def jd (a b:Hd α):Bool:=decide (a.k<b.k)||(decide (a.k=b.k)&&decide (a.i<b.i))
theorem Cr {a b:Hd α}:jd a b=true↔a.lt b:=by simp [jd,Hd.lt]
theorem Ii {a b:Hd α}:jd a b=false↔¬ a.lt b:=by rw [<-Cr];simp
theorem Hd.lt.asymm {a b:Hd α} (h:a.lt b):¬ b.lt a:=by simp only [Hd.lt] at *;omega
theorem Hd.nlt_trans {a b c:Hd α} (h:¬ a.lt b) (k:¬ b.lt c):¬ a.lt c:=by simp only [Hd.lt] at *;omega
theorem Hd.nlt_lt {a b c:Hd α} (h:¬ a.lt b) (k:c.lt b):¬ a.lt c:=by simp only [Hd.lt] at *;omega
def gt (H:List (Hd α)) (i:Nat):Hd α:=H.getD i Cq
def bU (H:List (Hd α)):Prop:=∀ i,0<i->i<H.length->¬ (gt H i).lt (gt H ((i-1)/2))
def nu (H:List (Hd α)) (a:Nat):Prop:=(∀ i,0<i->i<H.length->i≠a->¬ (gt H i).lt (gt H ((i-1)/2)))/\(∀ c,0<c->c<H.length->(c-1)/2=a->0<a->¬ (gt H c).lt (gt H ((a-1)/2)))
def pP (H:List (Hd α)) (a:Nat):Prop:=(∀ i,0<i->i<H.length->(i-1)/2≠a->¬ (gt H i).lt (gt H ((i-1)/2)))/\(∀ c,0<c->c<H.length->(c-1)/2=a->0<a->¬ (gt H c).lt (gt H ((a-1)/2)))
def swp (H:List (Hd α)) (i j:Nat):List (Hd α):=(H.set i (gt H j)).set j (gt H i)
theorem vN (H:List (Hd α)) (i j:Nat):(swp H i j).length=H.length:=by simp [swp]
theorem yH (H:List (Hd α)) (i:Nat) (x:Hd α) (hi:i<H.length) (j:Nat):gt (H.set i x) j=if j=i then x else gt H j:=by
 unfold gt;rw [qag,qag,List.getElem?_set];by_cases h:i=j
 ·subst h;simp [hi]
 ·rw [Yl h,Yl (Ne.symm h)]
variable {i:Nat}
theorem QC (H:List (Hd α)) {j:Nat} (hi:i<H.length) (hj:j<H.length) (q:Nat):gt (swp H i j) q=if q=j then gt H i else if q=i then gt H j else gt H q:=by unfold swp;rw [yH _ _ _ (by simpa using hj),yH _ _ _ hi]
theorem QD (H:List (Hd α)) {j:Nat} (hi:i<H.length) (hj:j<H.length):(swp H i j).Perm H:=by
 unfold swp gt;have e1:H.getD j Cq=H[j]:=by simp [List.getD,hj]
 have e2:H.getD i Cq=H[i]:=by simp [List.getD,hi]
 rw [e1,e2];exact List.set_set_perm hi hj
theorem nu.done {H:List (Hd α)} {a:Nat} (h:nu H a) (e:a=0\/¬ (gt H a).lt (gt H ((a-1)/2))):bU H:=by
 intro i h0 hi;by_cases q:i=a
 ·subst q
  rcases e with e | e
  ·omega
  ·exact e
 ·exact h.1 i h0 hi q
theorem nu.step {H:List (Hd α)} {a:Nat} (h:nu H a) (ha:a<H.length) (h0:0<a) (lt:(gt H a).lt (gt H ((a-1)/2))):nu (swp H a ((a-1)/2)) ((a-1)/2):=by
 obtain ⟨u,hu⟩:=qbr ((a-1)/2);rw [hu] at lt ⊢;have ul:u<H.length:=ω;have G:=QC H ha ul;refine ⟨fun i i0 hi ne=>?_,fun c c0 hc ec u0=>?_⟩
 ·rw [vN] at hi
  rw [G i,G ((i-1)/2),Yl ne];by_cases q:i=a
  ·subst q
   rw [Ym rfl,hu,Ym rfl];exact lt.asymm
  ·rw [Yl q]
   by_cases q1:(i-1)/2=u
   ·rw [Ym q1]
    have:=h.1 i i0 hi q
    rw [q1] at this;exact Hd.nlt_lt this lt
   ·rw [Yl q1]
    by_cases q2:(i-1)/2=a
    ·rw [Ym q2]
     have:=h.2 i i0 hi q2 h0
     rwa [hu] at this
    ·rw [Yl q2]
     exact h.1 i i0 hi q
 ·rw [vN] at hc
  have e1:(u-1)/2≠u:=ω;have e2:(u-1)/2≠a:=ω;have e3:c≠u:=ω;rw [G c,G ((u-1)/2),Yl e3,Yl e1,Yl e2];have e4:=h.1 u u0 ul ω;by_cases q:c=a
  ·rw [Ym q];exact e4
  ·rw [Yl q]
   have:=h.1 c c0 hc q
   rw [ec] at this;exact Hd.nlt_trans this e4
def Ij (H:List (Hd α)) (a d:Nat):Prop:=(d=a/\∀ c,0<c->c<H.length->(c-1)/2=a->¬ (gt H c).lt (gt H a))\/(a<d/\d<H.length/\(d-1)/2=a/\(gt H d).lt (gt H a)/\∀ c,0<c->c<H.length->(c-1)/2=a->¬ (gt H c).lt (gt H d))
theorem pP.done {H:List (Hd α)} {a:Nat} (h:pP H a) (e:∀ c,0<c->c<H.length->(c-1)/2=a->¬ (gt H c).lt (gt H a)):bU H:=by
 intro i h0 hi;by_cases q:(i-1)/2=a
 ·rw [q];exact e i h0 hi q
 ·exact h.1 i h0 hi q
theorem pP.step {H:List (Hd α)} {a d:Nat} (h:pP H a) (ad:a<d) (hd:d<H.length) (pd:(d-1)/2=a) (lt:(gt H d).lt (gt H a)) (e:∀ c,0<c->c<H.length->(c-1)/2=a->¬ (gt H c).lt (gt H d)):pP (swp H a d) d:=by
 have G:=QC H (show a<H.length by omega) hd
 refine ⟨fun i i0 hi ne=>?_,fun c c0 hc ec u0=>?_⟩
 ·rw [vN] at hi
  rw [G i,G ((i-1)/2),Yl ne];by_cases q:i=d
  ·subst q
   rw [Ym rfl,Ym pd];exact lt.asymm
  ·rw [Yl q]
   by_cases q1:i=a
   ·subst q1
    rw [Ym rfl,Yl ω];exact h.2 d ω hd pd i0
   ·rw [Yl q1]
    by_cases q2:(i-1)/2=a
    ·rw [Ym q2];exact e i i0 hi q2
    ·rw [Yl q2];exact h.1 i i0 hi q2
 ·rw [vN] at hc
  have e1:c≠d:=ω;have e2:c≠a:=ω;rw [G c,G ((d-1)/2),Yl e1,Yl e2,Yl ω,Ym pd];have:=h.1 c c0 hc ω;rwa [ec] at this
theorem bU.first {H:List (Hd α)} (h:bU H):∀ (n i:Nat),i<=n->i<H.length->¬ (gt H i).lt (gt H 0)
 | 0,i,hn,hi=>by
  have:i=0:=ω
  subst this;simp only [Hd.lt];omega
 | n+1,i,hn,hi=>by
  by_cases q:i=0
  ·subst q;simp only [Hd.lt];omega
  ·exact Hd.nlt_trans (h i ω hi) (bU.first h n ((i-1)/2) ω ω)
theorem bU.least {H:List (Hd α)} (h:bU H) {x:Hd α} (hx:x∈H):¬ x.lt (gt H 0):=by obtain ⟨i,hi,rfl⟩:=List.mem_iff_getElem.1 hx;have:=h.first i i (Yk _) hi;rwa [show gt H i=H[i] by simp [gt,List.getD,hi]] at this
theorem QF (H:List (Hd α)) (x:Hd α) (i:Nat):gt (H++[x]) i=if i<H.length then gt H i else if i=H.length then x else Cq:=by
 unfold gt;rw [qag,qag,List.getElem?_append];split
 ·rfl
 ·rename_i q
  by_cases e:i=H.length
  ·rw [Ym e,e];simp
  ·rw [Yl e,qbb ζ];rfl
theorem bU.app {H:List (Hd α)} (h:bU H) (x:Hd α):nu (H++[x]) H.length:=by
 refine ⟨fun i i0 hi ne=>?_,fun c c0 hc ec a0=>?_⟩
 ·have:i<H.length:=by simp at hi;omega
  rw [QF,QF,Ym this,Ym ω];exact h i i0 this
 ·simp at hc;omega
def nz (H:List (Hd α)):List (Hd α):=(H.set 0 (gt H (H.length-1))).take (H.length-1)
theorem Ik (H:List (Hd α)):(nz H).length=H.length-1:=by simp [nz]
theorem acC (H:List (Hd α)) (h0:0<H.length):H.Perm (gt H 0::nz H):=by
 match H,h0 with
 | x::t,_ =>
  rcases List.eq_nil_or_concat t with rfl | ⟨t0,y,rfl⟩
  ·simp [gt,nz]
  ·have e:gt (x::t0.concat y) ((x::t0.concat y).length-1)=y:=(by simp [gt,List.concat_eq_append]);unfold nz;rw [e];simp only [List.concat_eq_append,List.set_cons_zero,qak,Ψ,List.length_nil,qai,Nat.add_sub_cancel];show List.Perm _ (x::List.take (t0.length+1) (y::(t0++[y])));rw [qbj,List.take_left']
   ·exact List.Perm.cons _ (List.perm_append_comm (l₁:=t0) (l₂:=[y]))
   ·rfl
theorem QG (H:List (Hd α)) (n i:Nat) (hi:i<n):gt (H.take n) i=gt H i:=by unfold gt;rw [qag,qag,List.getElem?_take_of_lt hi]
theorem bU.cut {H:List (Hd α)} (h:bU H) (h0:0<H.length):pP (nz H) 0:=by
 refine ⟨fun i i0 hi ne=>?_,fun c c0 hc ec a0=>ω⟩
 rw [Ik] at hi;unfold nz;rw [QG _ _ _ hi,QG _ _ _ ω,yH _ _ _ h0,yH _ _ _ h0,Yl ω,Yl ne];exact h i i0 ω
variable (key:α->Int) (sz:Nat)
def eK (i:Nat) (s:aL α):List (Hd α):=match s.l with
 | []=>[]
 | x::_=>[⟨key x,i,s⟩]
def cC:Nat->List (aL α)->List (Hd α)
 | _,[]=>[]
 | i,s::r=>eK key i s++cC (i+1) r
def adv (s:aL α):aL α:=⟨s.b,s.off+sz,s.c-1,s.l.tail⟩
def iI (k:Int) (s:aL α):aL α:=match s.l with
 | []=>s
 | x::_=>if key x=k then adv sz s else s
variable {key} {sz}
theorem acD (k:Int) (s:aL α):(iI key sz k s).l=pass key k s.l:=by
 obtain ⟨b,off,c,l⟩:=s;cases l with
 | nil=>rfl
 | cons x t =>
  simp only [iI,pass];split<;>rfl
theorem QH {s:aL α} {h:Hd α} (m:h∈eK key i s):h.i=i/\h.s=s/\∃ x t,s.l=x::t/\h.k=key x:=by
 unfold eK at m;split at m
 ·cases m
 ·rename_i x t e
  have:h=⟨key x,i,s⟩:=by simpa using m
  subst this;exact ⟨rfl,rfl,x,t,e,rfl⟩
theorem Cs:∀ {L:List (aL α)} {i:Nat} {h:Hd α},h∈cC key i L->h.s∈L/\i<=h.i/\h.i<i+L.length/\∃ x t,h.s.l=x::t/\h.k=key x
 | [],i,h,m=>by simp [cC] at m
 | s::r,i,h,m=>by
  rw [cC,qaq] at m;rcases m with m | m
  ·obtain ⟨h1,h2,x,t,h3,h4⟩:=QH m
   exact ⟨by rw [h2];exact qat ..,ω,by simp;omega,x,t,by rw [h2];exact h3,h4⟩
  ·obtain ⟨h1,h2,h3,h4⟩:=Cs m
   exact ⟨qay _ h1,ω,by simp;omega,h4⟩
theorem QI {L:List (aL α)} {s:aL α} (hs:s∈L) {x:α} {t:List α} (e:s.l=x::t):∀ i,∃ h∈cC key i L,h.s=s/\h.k=key x:=by
 induction L with
 | nil=>cases hs
 | cons a r ih =>
  intro i;rcases qaf.1 hs with rfl | q
  ·refine ⟨⟨key x,i,s⟩,?_,rfl,rfl⟩
   rw [cC,qaq];left;unfold eK;rw [e];exact qat ..
  ·obtain ⟨h,h1,h2⟩:=ih q (i+1)
   exact ⟨h,by rw [cC,qaq];exact .inr h1,h2⟩
theorem acE {L:List (aL α)} (h:cC key i L=[]):dd key (L.map aL.l)=none:=by
 rw [yE];intro l hl;obtain ⟨s,hs,rfl⟩:=qaA.1 hl;cases e:s.l with
 | nil=>rfl
 | cons x t =>
  obtain ⟨y,hy,_⟩:=QI hs e i (key:=key);rw [h] at hy;cases hy
theorem QJ:∀ {L:List (aL α)} {i:Nat} {h:Hd α},h∈cC key i L->(∀ y∈cC key i L,¬ y.lt h)->∃ x t,h.s.l=x::t/\h.k=key x/\dd key (L.map aL.l)=some x
 | [],i,h,m,_=>by simp [cC] at m
 | s::r,i,h,m,mn=>by
  rw [cC,qaq] at m;have mr:∀ y∈cC key (i+1) r,¬ y.lt h:=fun y hy=>mn y (by rw [cC,qaq];exact .inr hy)
  rcases m with m | m
  ·obtain ⟨h1,h2,x,t,h3,h4⟩:=QH m
   refine ⟨x,t,by rw [h2];exact h3,h4,?_⟩
   rw [qaw,h3];simp only [dd];cases e:dd key (r.map aL.l) with
   | none=>rfl
   | some y =>
    obtain ⟨a,l,b,el,_,_⟩:=yF e;have:(y::l)∈r.map aL.l:=by rw [el];simp
    obtain ⟨s',eI,es⟩:=qaA.1 this;obtain ⟨q,hq,_,qk⟩:=QI eI es (i+1) (key:=key);have:=mr q hq;simp only [Hd.lt] at this;have nl:¬ key y<key x:=ω;simp [nl]
  ·obtain ⟨x,t,h1,h2,h3⟩:=QJ m mr
   refine ⟨x,t,h1,h2,?_⟩;rw [qaw];cases e:s.l with
   | nil=>simp only [dd];exact h3
   | cons z u =>
    simp only [dd,h3];obtain ⟨_,g1,_,_⟩:=Cs m;have:¬ (⟨key z,i,s⟩:Hd α).lt h:=mn _ (by rw [cC,qaq];left;unfold eK;rw [e];exact qat ..)
    simp only [Hd.lt] at this;rw [Ym ω]
theorem QK (k:Int):∀ (L:List (aL α)) (i:Nat),(cC key i (L.map (iI key sz k))).Perm ((cC key i L).filter (fun h=>!decide (h.k=k))++((cC key i L).filter (fun h=>decide (h.k=k))).flatMap (fun h=>eK key h.i (adv sz h.s)))
 | [],i=>by simp [cC]
 | s::r,i=>by
  have ih:=QK k r (i+1);rw [qaw,cC,cC];rw [List.filter_append,List.filter_append,List.flatMap_append];cases e:s.l with
  | nil =>
   have e1:eK key i s=[]:=(by unfold eK;rw [e]);have e2:eK key i (iI key sz k s)=[]:=by
    have:iI key sz k s=s:=by unfold iI;rw [e]
    rw [this];exact e1
   rw [e1,e2];simpa using ih
  | cons x t =>
   have e1:eK key i s=[⟨key x,i,s⟩]:=(by unfold eK;rw [e]);rw [e1];by_cases q:key x=k
   ·have e2:iI key sz k s=adv sz s:=(by unfold iI;rw [e];simp [q]);rw [e2];simp only [List.filter_cons,List.filter_nil,q,decide_true,Bool.not_true,if_true,qaK,List.flatMap_nil,qaJ];refine (List.Perm.append_left _ ih).trans ?_;simp only [Bool.false_eq_true,if_false,List.nil_append];rw [<-List.append_assoc,<-List.append_assoc];exact List.Perm.append_right _ List.perm_append_comm
   ·have e2:iI key sz k s=s:=(by unfold iI;rw [e];simp [q]);rw [e2,e1];simp only [List.filter_cons,List.filter_nil,q,decide_false,Bool.not_false,if_true,Bool.false_eq_true,if_false,List.flatMap_nil,List.nil_append,List.cons_append];exact List.Perm.cons _ ih
variable {β:Type}
theorem filter_all {p:β->Bool} {l:List β} (h:∀ x∈l,p x=true):l.filter p=l:=List.filter_eq_self.2 h
theorem QL {p:β->Bool} {l:List β} (h:∀ x∈l,p x=false):l.filter p=[]:=by rw [List.filter_eq_nil_iff];intro x hx;rw [h x hx];decide
variable {k:Int}
theorem acF {L:List (aL α)} {H P H' Hf:List (Hd α)} (hH:H.Perm (cC key 0 L)) (hP:(P++H').Perm H) (p1:∀ p∈P,p.k=k) (p2:∀ h∈H',h.k≠k) (hf:Hf.Perm (H'++P.flatMap (fun h=>eK key h.i (adv sz h.s)))):Hf.Perm (cC key 0 (L.map (iI key sz k))):=by
 have h1:=QK (sz:=sz) k L 0 (key:=key);have e:=hP.trans hH;have f1:=e.filter (fun h:Hd α=>!decide (h.k=k))
 have f2:=e.filter (fun h:Hd α=>decide (h.k=k))
 rw [List.filter_append,QL (l:=P) (fun x hx=>by simp [p1 x hx]),filter_all (l:=H') (fun x hx=>by simp [p2 x hx]),List.nil_append] at f1
 rw [List.filter_append,filter_all (l:=P) (fun x hx=>by simp [p1 x hx]),QL (l:=H') (fun x hx=>by simp [p2 x hx]),qaJ] at f2
 exact hf.trans ((List.Perm.append f1 (f2.flatMap_right _)).trans h1.symm)
theorem Il:∀ (L:List (aL α)) (i:Nat),(cC key i L).length<=L.length
 | [],i=>Yk _
 | s::r,i=>by
  rw [cC,Ψ];have:=Il r (i+1);have:(eK key i s).length<=1:=by unfold eK;split<;>simp
  simp;omega
end
