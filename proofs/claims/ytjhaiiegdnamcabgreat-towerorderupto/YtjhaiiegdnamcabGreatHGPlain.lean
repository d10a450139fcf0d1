/- Sorted lists brought together: plain words. No Go in it. -/
import Derived.Test.YtjhaiiegdnamcabGreatHPE3
namespace Go.Proofs.YtjhaiiegdnamcabGreat
set_option linter.unusedVariables false
section
variable {α:Type} (key:α→Int)
def leastM:List (List α)→Option α
 | []=>none
 | []::r=>leastM r
 | (x::_)::r=>match leastM r with
  | none=>some x
  | some y=>if key y<key x then some y else some x
def pass (k:Int):List α→List α
 | []=>[]
 | x::l=>if key x=k then l else x::l
def Mg:List (List α)→List α→Prop
 | ls,[]=>leastM key ls=none
 | ls,x::out=>leastM key ls=some x∧Mg (ls.map (pass key (key x))) out
variable {key}
theorem Mg.done {ls:List (List α)} (h:leastM key ls=none):Mg key ls []:=by unfold Mg;exact h
theorem Mg.step {ls:List (List α)} {x:α} {out:List α} (h:leastM key ls=some x) (r:Mg key (ls.map (pass key (key x))) out):Mg key ls (x::out):=by unfold Mg;exact ⟨h,r⟩
theorem Mg.ind {motive:(ls:List (List α))→(out:List α)→Mg key ls out→Prop} (done:∀ {ls:List (List α)} (h:leastM key ls=none),motive ls [] (Mg.done h)) (step:∀ {ls:List (List α)} {x:α} {out:List α} (h:leastM key ls=some x) (r:Mg key (ls.map (pass key (key x))) out) (ih:motive _ out r),motive ls (x::out) (Mg.step h r)):∀ {ls:List (List α)} {out:List α} (h:Mg key ls out),motive ls out h:=by
 intro ls out
 induction out generalizing ls with
 | nil=>intro h;exact done (by unfold Mg at h;exact h)
 | cons x out ih =>
  intro h
  have h':=h
  unfold Mg at h'
  exact step h'.1 h'.2 (ih h'.2)
theorem Mg.one {ls:List (List α)} {a b:List α} (h:Mg key ls a) (h':Mg key ls b):a=b:=by
 induction h using Mg.ind generalizing b with
 | done e =>
  cases b with
  | nil=>rfl
  | cons y b=>unfold Mg at h';rw [e] at h';cases h'.1
 | step e _ ih =>
  cases b with
  | nil=>unfold Mg at h';rw [e] at h';cases h'
  | cons y b =>
   unfold Mg at h'
   have q:=h'.1
   rw [e] at q
   cases q
   rw [ih h'.2]
def sizes (ls:List (List α)):Nat:=(ls.map List.length).sum
theorem sizes_cons (l:List α) (ls:List (List α)):sizes (l::ls)=l.length+sizes ls:=by simp [sizes]
theorem pass_cons (k:Int) (x:α) (l:List α):pass key k (x::l)=if key x=k then l else x::l:=rfl
theorem pass_len (k:Int) (l:List α):(pass key k l).length≤l.length:=by
 cases l with
 | nil=>exact Nat.le_refl _
 | cons x l=>rw [pass_cons];split<;>simp
theorem passes_len (k:Int) (ls:List (List α)):sizes (ls.map (pass key k))≤sizes ls:=by
 induction ls with
 | nil=>exact Nat.le_refl _
 | cons l ls ih=>rw [List.map_cons,sizes_cons,sizes_cons];have:=pass_len (key:=key) k l;omega
theorem least_none {ls:List (List α)}:leastM key ls=none↔∀ l∈ls,l=[]:=by
 induction ls with
 | nil=>simp [leastM]
 | cons l ls ih =>
  cases l with
  | nil=>simp [leastM,ih]
  | cons x l =>
   simp only [leastM]
   constructor
   ·intro h;split at h
    ·cases h
    ·split at h<;>cases h
   ·intro h;have:=h _ (List.mem_cons_self ..);cases this
theorem least_some {ls:List (List α)} {x:α} (h:leastM key ls=some x):∃ a l b,ls=a++(x::l)::b∧(∀ y t,y::t∈a→key x<key y)∧(∀ y t,y::t∈ls→key x≤key y):=by
 induction ls generalizing x with
 | nil=>simp [leastM] at h
 | cons l ls ih =>
  cases l with
  | nil =>
   obtain ⟨a,l',b,e,h1,h2⟩:=ih (by simpa [leastM] using h)
   refine ⟨[]::a,l',b,by simp [e],fun y t hy=>?_,fun y t hy=>?_⟩
   ·rcases List.mem_cons.1 hy with q | q
    ·cases q
    ·exact h1 y t q
   ·rcases List.mem_cons.1 hy with q | q
    ·cases q
    ·exact h2 y t q
  | cons z l =>
   simp only [leastM] at h
   split at h
   ·rename_i hn
    cases h
    refine ⟨[],l,ls,rfl,(fun y t hy=>by cases hy),fun y t hy=>?_⟩
    rcases List.mem_cons.1 hy with q | q
    ·cases q;exact Int.le_refl _
    ·have:=least_none.1 hn _ q;cases this
   ·rename_i y hy
    obtain ⟨a,l',b,e,h1,h2⟩:=ih hy
    split at h
    ·rename_i lt
     cases h
     refine ⟨(z::l)::a,l',b,by simp [e],fun y' t hy'=>?_,fun y' t hy'=>?_⟩
     ·rcases List.mem_cons.1 hy' with q | q
      ·cases q;exact lt
      ·exact h1 y' t q
     ·rcases List.mem_cons.1 hy' with q | q
      ·cases q;exact Int.le_of_lt lt
      ·exact h2 y' t q
    ·rename_i ge
     cases h
     refine ⟨[],l,ls,rfl,(fun y t hy=>by cases hy),fun y' t hy'=>?_⟩
     rcases List.mem_cons.1 hy' with q | q
     ·cases q;exact Int.le_refl _
     ·have:=h2 y' t q;omega
theorem sizes_app (a b:List (List α)):sizes (a++b)=sizes a+sizes b:=by simp [sizes]
theorem passes_lt {ls:List (List α)} {x:α} (h:leastM key ls=some x):sizes (ls.map (pass key (key x)))<sizes ls:=by
 obtain ⟨a,l,b,e,_,_⟩:=least_some h
 rw [e,List.map_append,List.map_cons,sizes_app,sizes_app,sizes_cons,sizes_cons]
 have h1:=passes_len (key:=key) (key x) a
 have h2:=passes_len (key:=key) (key x) b
 have h3:(pass key (key x) (x::l)).length=l.length:=by simp [pass]
 rw [h3]
 simp
 omega
theorem Mg.ex (key:α→Int):∀ (n:Nat) (ls:List (List α)),sizes ls≤n→∃ out,Mg key ls out
 | n,ls,hn=>by
  cases h:leastM key ls with
  | none=>exact ⟨[], .done h⟩
  | some x =>
   have:=passes_lt h
   match n,hn with
   | 0,hn=>omega
   | n+1,hn =>
    obtain ⟨out,r⟩:=Mg.ex key n (ls.map (pass key (key x))) (by omega)
    exact ⟨_, .step h r⟩
theorem Mg.few {ls:List (List α)} {out:List α} (h:Mg key ls out):out.length≤sizes ls:=by
 induction h using Mg.ind with
 | done _=>exact Nat.zero_le _
 | step e _ ih=>have:=passes_lt e;simp;omega
def Rise (key:α→Int) (l:List α):Prop:=l.Pairwise fun a b=>key a<key b
def look (key:α→Int) (k:Int) (l:List α):Option α:=l.find? fun x=>key x == k
theorem look_nil (k:Int):look key k []=none:=rfl
theorem look_cons (k:Int) (x:α) (l:List α):look key k (x::l)=if key x=k then some x else look key k l:=by
 unfold look
 rw [List.find?_cons]
 by_cases h:key x=k
 ·simp [h]
 ·rw [if_neg h,show (key x == k)=false by simpa using h]
theorem look_key {k:Int} {l:List α} {x:α} (h:look key k l=some x):key x=k:=by
 have:=List.find?_some h
 simpa using this
theorem Rise.below {k:Int} {l:List α} (h:∀ x∈l,k<key x):look key k l=none:=by
 unfold look
 rw [List.find?_eq_none]
 intro x hx
 have:=h x hx
 simp
 omega
theorem Rise.eq:∀ {a b:List α},Rise key a→Rise key b→(∀ k,look key k a=look key k b)→a=b
 | [],[],_,_,_=>rfl
 | [],y::b,_,_,h=>by have:=h (key y);rw [look_nil,look_cons,if_pos rfl] at this;cases this
 | x::a,[],_,_,h=>by have:=h (key x);rw [look_nil,look_cons,if_pos rfl] at this;cases this
 | x::a,y::b,ha,hb,h=>by
  obtain ⟨a1,a2⟩:=List.pairwise_cons.1 ha
  obtain ⟨b1,b2⟩:=List.pairwise_cons.1 hb
  have xy:key x=key y:=by
   rcases Int.lt_trichotomy (key x) (key y) with q | q | q
   ·have e:=h (key x)
    rw [look_cons,if_pos rfl,look_cons,if_neg (by omega),Rise.below fun z hz=>by have:=b1 z hz;omega] at e
    cases e
   ·exact q
   ·have e:=h (key y)
    rw [look_cons,if_neg (by omega),Rise.below (fun z hz=>by have:=a1 z hz;omega),look_cons,if_pos rfl] at e
    cases e
  have e:=h (key x)
  rw [look_cons,if_pos rfl,look_cons,if_pos xy.symm] at e
  cases e
  have:a=b:=Rise.eq a2 b2 fun k=>by
   have e:=h k
   rw [look_cons,look_cons] at e
   by_cases q:key x=k
   ·subst q
    rw [Rise.below a1,Rise.below b1]
   ·rw [if_neg q,if_neg q] at e
    exact e
  rw [this]
def firstOf (key:α→Int) (k:Int):List (List α)→Option α
 | []=>none
 | l::r=>match look key k l with
  | some x=>some x
  | none=>firstOf key k r
theorem Rise.pass {k:Int} {l:List α} (h:Rise key l):Rise key (pass key k l):=by
 cases l with
 | nil=>exact h
 | cons x l=>rw [pass_cons];split;exact (List.pairwise_cons.1 h).2;exact h
theorem pass_above {k:Int} {l:List α} (h:Rise key l) (hk:∀ y t,l=y::t→k≤key y):∀ y∈pass key k l,k<key y:=by
 cases l with
 | nil=>intro y hy;cases hy
 | cons x l =>
  obtain ⟨h1,h2⟩:=List.pairwise_cons.1 h
  have:=hk x l rfl
  rw [pass_cons]
  split
  ·intro y hy;have:=h1 y hy;omega
  ·intro y hy
   rcases List.mem_cons.1 hy with rfl | q
   ·omega
   ·have:=h1 y q;omega
theorem pass_look {k k':Int} {l:List α} (n:k'≠k):look key k' (pass key k l)=look key k' l:=by
 cases l with
 | nil=>rfl
 | cons x l =>
  rw [pass_cons]
  split
  ·rename_i e
   rw [look_cons,if_neg (by omega)]
  ·rfl
theorem firstOf_pass {k k':Int} (n:k'≠k):∀ ls:List (List α),firstOf key k' (ls.map (pass key k))=firstOf key k' ls
 | []=>rfl
 | l::r=>by simp only [List.map_cons,firstOf,pass_look n,firstOf_pass n r]
theorem firstOf_none {k:Int}:∀ {ls:List (List α)},(∀ l∈ls,look key k l=none)→firstOf key k ls=none
 | [],_=>rfl
 | l::r,h=>by simp only [firstOf,h l (List.mem_cons_self ..)];exact firstOf_none fun l hl=>h l (List.mem_cons_of_mem _ hl)
theorem firstOf_app {k:Int} (b:List (List α)):∀ a:List (List α),(∀ l∈a,look key k l=none)→firstOf key k (a++b)=firstOf key k b
 | [],_=>rfl
 | l::r,h=>by simp only [List.cons_append,firstOf,h l (List.mem_cons_self ..)];exact firstOf_app b r fun l hl=>h l (List.mem_cons_of_mem _ hl)
theorem Mg.once {ls:List (List α)} {out:List α} (h:Mg key ls out) (rs:∀ l∈ls,Rise key l):Rise key out∧∀ k,look key k out=firstOf key k ls:=by
 induction h using Mg.ind with
 | done e =>
  refine ⟨List.Pairwise.nil,fun k=>?_⟩
  rw [firstOf_none fun l hl=>by rw [least_none.1 e l hl];rfl]
  rfl
 | @step ls x out e r ih =>
  obtain ⟨a,l,b,el,h1,h2⟩:=least_some e
  obtain ⟨q1,q2⟩:=ih fun l' hl'=>by
   obtain ⟨l,hl,rfl⟩:=List.mem_map.1 hl'
   exact (rs l hl).pass
  have ab:∀ y∈out,key x<key y:=fun y hy=>by
   have hs:look key (key y) out=some y:=by
    have:∀ (o:List α),Rise key o→y∈o→look key (key y) o=some y:=by
     intro o
     induction o with
     | nil=>intro _ h;cases h
     | cons z o ih =>
      intro hr hy
      obtain ⟨z1,z2⟩:=List.pairwise_cons.1 hr
      rw [look_cons]
      rcases List.mem_cons.1 hy with rfl | q
      ·rw [if_pos rfl]
      ·have:=z1 y q
       rw [if_neg (by omega)]
       exact ih z2 q
    exact this out q1 hy
   rw [q2] at hs
   have:∀ ls':List (List α),(∀ l∈ls',∀ z∈l,key x<key z)→∀ z,firstOf key (key y) ls'=some z→key x<key y:=by
    intro ls'
    induction ls' with
    | nil=>intro _ z hz;cases hz
    | cons l' r' ih' =>
     intro hl z hz
     simp only [firstOf] at hz
     cases hh:look key (key y) l' with
     | some u =>
      have hm:=List.mem_of_find?_eq_some hh
      have:=hl l' (List.mem_cons_self ..) u hm
      have:=look_key hh
      omega
     | none =>
      rw [hh] at hz
      exact ih' (fun l hl'=>hl l (List.mem_cons_of_mem _ hl')) z hz
   refine this _ (fun l' hl'=>?_) y hs
   obtain ⟨l,hl,rfl⟩:=List.mem_map.1 hl'
   exact pass_above (rs l hl) fun y t e=>h2 y t (by rw [←e];exact hl)
  refine ⟨List.pairwise_cons.2 ⟨ab,q1⟩,fun k=>?_⟩
  rw [look_cons]
  by_cases ek:key x=k
  ·rw [if_pos ek]
   subst ek
   rw [el,firstOf_app]
   ·simp only [firstOf,look_cons,if_true]
   ·intro l' hl'
    cases l' with
    | nil=>rfl
    | cons y t =>
     have h3:=h1 y t hl'
     refine Rise.below fun z hz=>?_
     have hr:=rs (y::t) (by rw [el];exact List.mem_append_left _ hl')
     rcases List.mem_cons.1 hz with rfl | q
     ·exact h3
     ·have:=(List.pairwise_cons.1 hr).1 z q
      omega
  ·rw [if_neg ek,q2,firstOf_pass (Ne.symm ek)]
theorem firstOf_two (k:Int) (a b:List α):firstOf key k [a,b]=(look key k a).or (look key k b):=by
 simp only [firstOf]
 cases look key k a<;>cases look key k b<;>rfl
theorem firstOf_three (k:Int) (a b c:List α):firstOf key k [a,b,c]=(look key k a).or ((look key k b).or (look key k c)):=by
 simp only [firstOf]
 cases look key k a<;>cases look key k b<;>cases look key k c<;>rfl
theorem all_two {a b:List α} (ha:Rise key a) (hb:Rise key b):∀ l∈[a,b],Rise key l:=by
 intro l hl
 rcases List.mem_cons.1 hl with rfl | q
 ·exact ha
 ·rw [List.mem_singleton.1 q];exact hb
theorem all_three {a b c:List α} (ha:Rise key a) (hb:Rise key b) (hc:Rise key c):∀ l∈[a,b,c],Rise key l:=by
 intro l hl
 rcases List.mem_cons.1 hl with rfl | q
 ·exact ha
 ·exact all_two hb hc l q
theorem Mg.left {a b c ab o o':List α} (ha:Rise key a) (hb:Rise key b) (hc:Rise key c) (h:Mg key [a,b,c] o) (h1:Mg key [a,b] ab) (h2:Mg key [ab,c] o'):o=o':=by
 obtain ⟨r,e⟩:=h.once (all_three ha hb hc)
 obtain ⟨r1,e1⟩:=h1.once (all_two ha hb)
 obtain ⟨r2,e2⟩:=h2.once (all_two r1 hc)
 refine Rise.eq r r2 fun k=>?_
 rw [e,e2,firstOf_three,firstOf_two,e1,firstOf_two,Option.or_assoc]
theorem Mg.right {a b c bc o o':List α} (ha:Rise key a) (hb:Rise key b) (hc:Rise key c) (h:Mg key [a,b,c] o) (h1:Mg key [b,c] bc) (h2:Mg key [a,bc] o'):o=o':=by
 obtain ⟨r,e⟩:=h.once (all_three ha hb hc)
 obtain ⟨r1,e1⟩:=h1.once (all_two hb hc)
 obtain ⟨r2,e2⟩:=h2.once (all_two ha r1)
 refine Rise.eq r r2 fun k=>?_
 rw [e,e2,firstOf_three,firstOf_two,e1,firstOf_two]
theorem Mg.twice {a o:List α} (ha:Rise key a) (h:Mg key [a,a] o):o=a:=by
 obtain ⟨r,e⟩:=h.once (all_two ha ha)
 refine Rise.eq r ha fun k=>?_
 rw [e,firstOf_two]
 cases look key k a<;>rfl
theorem look_filter {l:List α} (h:Rise key l) (p:α→Bool) (k:Int):look key k (l.filter p)=(look key k l).filter p:=by
 induction l with
 | nil=>rfl
 | cons x l ih =>
  obtain ⟨h1,h2⟩:=List.pairwise_cons.1 h
  have ih:=ih h2
  rw [look_cons,List.filter_cons]
  by_cases e:key x=k
  ·rw [if_pos e]
   by_cases q:p x=true
   ·rw [if_pos q,look_cons,if_pos e]
    simp [Option.filter,q]
   ·rw [if_neg q,ih,Rise.below (by rw [←e];exact h1)]
    simp [Option.filter,q]
  ·rw [if_neg e]
   by_cases q:p x=true
   ·rw [if_pos q,look_cons,if_neg e,ih]
   ·rw [if_neg q,ih]
theorem Rise.filter {l:List α} (h:Rise key l) (p:α→Bool):Rise key (l.filter p):=List.Pairwise.filter p h
theorem Mg.long {ls:List (List α)} {out:List α} (h:Mg key ls out) (rs:∀ l∈ls,Rise key l):∀ l∈ls,l.length≤out.length:=by
 induction h using Mg.ind with
 | done e=>intro l hl;rw [least_none.1 e l hl];exact Nat.le_refl _
 | @step ls x out e r ih =>
  intro l hl
  have:=ih (fun l' hl'=>by
   obtain ⟨l,hl,rfl⟩:=List.mem_map.1 hl'
   exact (rs l hl).pass) _ (List.mem_map.2 ⟨l,hl,rfl⟩)
  have:l.length≤(pass key (key x) l).length+1:=by
   cases l with
   | nil=>simp
   | cons y l=>rw [pass_cons];split<;>simp
  simp
  omega
theorem least_map {β:Type} (f:α→β) (key':β→Int) (hk:∀ x,key' (f x)=key x):∀ ls:List (List α),leastM key' (ls.map (List.map f))=(leastM key ls).map f
 | []=>rfl
 | []::r=>by simp only [List.map_cons,List.map_nil,leastM];exact least_map f key' hk r
 | (x::l)::r=>by
  simp only [List.map_cons,leastM]
  rw [least_map f key' hk r]
  cases leastM key r with
  | none=>rfl
  | some y =>
   simp only [Option.map_some,hk]
   split<;>rfl
theorem pass_map {β:Type} (f:α→β) (key':β→Int) (hk:∀ x,key' (f x)=key x) (k:Int) (l:List α):pass key' k (l.map f)=(pass key k l).map f:=by
 cases l with
 | nil=>rfl
 | cons x l =>
  rw [List.map_cons,pass_cons,pass_cons,hk]
  split<;>rfl
theorem Mg.map {β:Type} (f:α→β) (key':β→Int) (hk:∀ x,key' (f x)=key x) {ls:List (List α)} {o:List α} (h:Mg key ls o):Mg key' (ls.map (List.map f)) (o.map f):=by
 induction h using Mg.ind with
 | done e=>exact .done (by rw [least_map f key' hk,e];rfl)
 | @step ls x out e r ih =>
  refine .step (by rw [least_map f key' hk,e];rfl) ?_
  rw [hk]
  have:(ls.map (List.map f)).map (pass key' (key x))=(ls.map (pass key (key x))).map (List.map f):=by
   rw [List.map_map,List.map_map]
   refine List.map_congr_left fun l _=>?_
   exact pass_map f key' hk _ l
  rw [this]
  exact ih
theorem pass_mem {k:Int} {l:List α} {x:α} (h:x∈pass key k l):x∈l:=by
 cases l with
 | nil=>exact h
 | cons y l =>
  rw [pass_cons] at h
  split at h
  ·exact List.mem_cons_of_mem _ h
  ·exact h
theorem least_at {ls:List (List α)} {f:Nat} {x:α} {l:List α} (hf:ls[f]?=some (x::l)) (h1:∀ i y t,i<f→ls[i]?=some (y::t)→key x<key y) (h2:∀ (i:Nat) y t,ls[i]?=some (y::t)→key x≤key y):leastM key ls=some x:=by
 cases h:leastM key ls with
 | none=>have:=least_none.1 h (x::l) (List.mem_of_getElem? hf);cases this
 | some y =>
  obtain ⟨a,l',b,e,q1,q2⟩:=least_some h
  have ea:ls[a.length]?=some (y::l'):=by rw [e];simp
  rcases Nat.lt_trichotomy a.length f with c | c | c
  ·have h3:=h1 a.length y l' c ea
   have h4:=q2 x l (List.mem_of_getElem? hf)
   omega
  ·rw [c,hf] at ea
   cases ea
   rfl
  ·have hm:(x::l)∈a:=by
    rw [e,List.getElem?_append_left c] at hf
    exact List.mem_of_getElem? hf
   have h3:=q1 x l hm
   have h4:=h2 a.length y l' ea
   omega
end
def frow (len a:Nat→Nat) (i:Nat):List (Nat×Nat):=(List.range' (a i) (len i-a i)).map fun j=>(i,j)
def froms (ln:Nat) (len a:Nat→Nat):List (List (Nat×Nat)):=(List.range ln).map (frow len a)
theorem froms_at (ln:Nat) (len a:Nat→Nat) (i:Nat):(froms ln len a)[i]?=if i<ln then some (frow len a i) else none:=by
 unfold froms
 rw [List.getElem?_map]
 by_cases h:i<ln
 ·rw [if_pos h,List.getElem?_range h];rfl
 ·rw [if_neg h,List.getElem?_eq_none (by simpa using h)];rfl
theorem frow_none {len a:Nat→Nat} {i:Nat} (h:¬ a i<len i):frow len a i=[]:=by
 unfold frow
 rw [show len i-a i=0 by omega]
 rfl
theorem frow_some {len a:Nat→Nat} {i:Nat} (h:a i<len i):frow len a i=(i,a i)::(List.range' (a i+1) (len i-(a i+1))).map fun j=>(i,j):=by
 unfold frow
 rw [show len i-a i=(len i-(a i+1))+1 by omega,List.range'_succ]
 rfl
theorem frow_head {len a:Nat→Nat} {i:Nat} {y:Nat×Nat} {t:List (Nat×Nat)} (h:frow len a i=y::t):a i<len i∧y=(i,a i):=by
 by_cases q:a i<len i
 ·rw [frow_some q] at h
  cases h
  exact ⟨q,rfl⟩
 ·rw [frow_none q] at h
  cases h
def passA (key:Nat×Nat→Int) (k:Int) (len a:Nat→Nat) (i:Nat):Nat:=if a i<len i∧key (i,a i)=k then a i+1 else a i
theorem passA_pos {key:Nat×Nat→Int} {k:Int} {len a:Nat→Nat} {i:Nat} (h:a i<len i∧key (i,a i)=k):passA key k len a i=a i+1:=if_pos h
theorem passA_neg {key:Nat×Nat→Int} {k:Int} {len a:Nat→Nat} {i:Nat} (h:¬ (a i<len i∧key (i,a i)=k)):passA key k len a i=a i:=if_neg h
theorem frow_pass (key:Nat×Nat→Int) (k:Int) (len a:Nat→Nat) (i:Nat):pass key k (frow len a i)=frow len (passA key k len a) i:=by
 by_cases q:a i<len i
 ·rw [frow_some q,pass_cons]
  by_cases e:key (i,a i)=k
  ·rw [if_pos e]
   unfold frow
   rw [passA_pos ⟨q,e⟩]
  ·rw [if_neg e]
   unfold frow
   rw [passA_neg (fun x=>e x.2),show len i-a i=(len i-(a i+1))+1 by omega,List.range'_succ]
   rfl
 ·rw [frow_none q]
  unfold frow
  rw [passA_neg (fun x=>q x.1),show len i-a i=0 by omega]
  rfl
theorem froms_pass (key:Nat×Nat→Int) (k:Int) (ln:Nat) (len a:Nat→Nat):(froms ln len a).map (pass key k)=froms ln len (passA key k len a):=by
 unfold froms
 rw [List.map_map]
 exact List.map_congr_left fun i _=>frow_pass key k len a i
theorem froms_none {key:Nat×Nat→Int} {ln:Nat} {len a:Nat→Nat} (h:∀ i,i<ln→¬ a i<len i):leastM key (froms ln len a)=none:=by
 refine least_none.2 fun l hl=>?_
 obtain ⟨i,hi,rfl⟩:=List.mem_map.1 hl
 exact frow_none (h i (List.mem_range.1 hi))
theorem froms_least {key:Nat×Nat→Int} {ln:Nat} {len a:Nat→Nat} {f:Nat} (hf:f<ln) (h0:a f<len f) (h1:∀ i,i<f→a i<len i→key (f,a f)<key (i,a i)) (h2:∀ i,i<ln→a i<len i→key (f,a f)≤key (i,a i)):leastM key (froms ln len a)=some (f,a f):=by
 refine least_at (f:=f) (by rw [froms_at,if_pos hf,frow_some h0]) (fun i y t hi e=>?_) (fun i y t e=>?_)
 ·rw [froms_at,if_pos (by omega)] at e
  obtain ⟨q,rfl⟩:=frow_head (Option.some.inj e)
  exact h1 i hi q
 ·rw [froms_at] at e
  by_cases hi:i<ln
  ·rw [if_pos hi] at e
   obtain ⟨q,rfl⟩:=frow_head (Option.some.inj e)
   exact h2 i hi q
  ·rw [if_neg hi] at e
   cases e
end Go.Proofs.YtjhaiiegdnamcabGreat
namespace Go.Proofs.YtjhaiiegdnamcabGreat
open Go.RowKit
set_option linter.unusedVariables false
structure KV (w:World) (ao:Option Addr) (K:List (List Int)):Prop where
 cells:0<K.length→∃ b off,ao=some ⟨b,off,none⟩∧b<w.heap.size∧∀ i,i<K.length→∃ bo c,w.cell? ⟨b,off+i,none⟩=some (.slice bo (K.getD i []).length c)∧KS w bo (K.getD i []).length (fun j=>(K.getD i []).getD j 0)
theorem KV.gw {w w':World} {ao:Option Addr} {K:List (List Int)} (h:KV w ao K) (g:Gw w w'):KV w' ao K :=
 ⟨fun h0=>by
  obtain ⟨b,off,e,hb,hc⟩:=h.cells h0
  refine ⟨b,off,e,Nat.lt_of_lt_of_le hb g.size,fun i hi=>?_⟩
  obtain ⟨bo,c,h1,h2⟩:=hc i hi
  exact ⟨bo,c,(g.cell _ _ hb).trans h1,h2.gw g⟩⟩
def AT (w:World) (b n:Nat) (a:Nat→Nat):Prop:=∃ cur,w.heap[b]?=some (.cells cur 3 (0,0))∧cur.size=n∧∀ i,i<n→cur[i]?=some (.int .i64 ((a i:Nat):Int))
theorem AT.lt {w:World} {b n:Nat} {a:Nat→Nat} (h:AT w b n a):b<w.heap.size:=by
 obtain ⟨cur,h1,_⟩:=h
 exact (Array.getElem?_eq_some_iff.1 h1).1
theorem AT.keep {w w':World} {b n:Nat} {a:Nat→Nat} (h:AT w b n a) (k:w'.heap[b]?=w.heap[b]?):AT w' b n a:=by
 obtain ⟨cur,h1,h2⟩:=h
 exact ⟨cur,k.trans h1,h2⟩
theorem AT.gw {w w':World} {b n:Nat} {a:Nat→Nat} (h:AT w b n a) (g:Gw w w'):AT w' b n a:=h.keep (g.below.block b h.lt)
theorem AT.cell {w:World} {b n:Nat} {a:Nat→Nat} (h:AT w b n a) {i:Nat} (hi:i<n):w.cell? ⟨b,i,none⟩=some (.int .i64 ((a i:Nat):Int)):=by
 obtain ⟨cur,h1,_,h3⟩:=h
 simp [World.cell?,h1,h3 i hi]
theorem AT.frozen {w:World} {b n:Nat} {a:Nat→Nat} (h:AT w b n a) (i:Nat):w.frozen? ⟨b,i,none⟩=false:=by
 obtain ⟨cur,h1,_,_⟩:=h
 simp [World.frozen?,h1]
theorem AT.set {w:World} {b n:Nat} {a a':Nat→Nat} (h:AT w b n a) {i:Nat} (hi:i<n) (e:∀ j,j<n→a' j=if j=i then a' i else a j):AT (w.setCell ⟨b,i,none⟩ (.int .i64 ((a' i:Nat):Int))) b n a':=by
 obtain ⟨cur,h1,h2,h3⟩:=h
 refine ⟨cur.setIfInBounds i (.int .i64 ((a' i:Nat):Int)),?_,by simpa using h2,fun j hj=>?_⟩
 ·simp [World.setCell,Array.getElem?_modify,h1]
 ·by_cases q:j=i
  ·subst q
   simp [h2,hj]
  ·have:=e j hj
   rw [if_neg q] at this
   rw [this,Array.getElem?_setIfInBounds_ne (Ne.symm q)]
   exact h3 j hj
theorem AT.congr {w:World} {b n:Nat} {a a':Nat→Nat} (h:AT w b n a) (e:∀ j,j<n→a j=a' j):AT w b n a':=by
 obtain ⟨cur,h1,h2,h3⟩:=h
 exact ⟨cur,h1,h2,fun i hi=>by rw [←e i hi];exact h3 i hi⟩
theorem info_i13:(Tryz.prog.info? 3).map (fun i=>(i.zero,i.size,i.bytes))=some (some (.int .i64 0),1,8):=by kernel_rfl
theorem made_i13 (m:Nat) (z:Int) (hz:z=(m:Int)) (hm:m≤281474976710) (w:World) :
  (Instr.makeSlice 40 (.int .i64 z) (.int .i64 z)).run Tryz.prog w=.ok (.slice (some ⟨w.heap.size,0,none⟩) m m) (w.alloc (.cells (madeCells #[.int .i64 0] m) 3)):=by
 obtain ⟨i,hi,hz',hs,hb⟩:=info_parts info_i13
 subst hz
 exact run_make_row (P:=Tryz.prog) 40 3 i (.int .i64 0) Tryz.underlying40 hi hz' hs rfl .i64 .i64 m (by rw [hb];omega) (by omega) w
def pl2 (p:Nat×Nat):List Value:=[.int .i64 (p.1:Int), .int .i64 (p.2:Int)]
end Go.Proofs.YtjhaiiegdnamcabGreat
namespace Go.Proofs.YtjhaiiegdnamcabGreat
set_option linter.unusedVariables false
section
variable {α:Type} {key:α→Int}
def plc (key:α→Int) (k:Int):List α→Nat
 | []=>0
 | y::l=>if key y<k then plc key k l+1 else 0
def ins (key:α→Int) (x:α):List α→List α
 | []=>[x]
 | y::l=>if key y<key x then y::ins key x l else if key y=key x then x::l else x::y::l
theorem plc_le (k:Int):∀ l:List α,plc key k l≤l.length
 | []=>Nat.le_refl _
 | y::l=>by
  have:=plc_le k l
  unfold plc
  split
  ·simp;omega
  ·simp
theorem plc_one {k:Int}:∀ {l:List α} {i:Nat},i≤l.length→(∀ t y,t<i→l[t]?=some y→key y<k)→(∀ y,l[i]?=some y→¬ key y<k)→plc key k l=i
 | [],i,hi,_,_=>by simp at hi;subst hi;rfl
 | x::l,0,_,_,h2=>by
  have:=h2 x (by simp)
  unfold plc
  rw [if_neg this]
 | x::l,i+1,hi,h1,h2=>by
  have:=h1 0 x (by omega) (by simp)
  unfold plc
  rw [if_pos this,plc_one (by simpa using hi) (fun t y ht h=>h1 (t+1) y (by omega) (by simpa using h)) (fun y h=>h2 y (by simpa using h))]
theorem Rise.tail {x:α} {l:List α} (h:Rise key (x::l)):Rise key l:=(List.pairwise_cons.1 h).2
theorem Rise.head {x:α} {l:List α} (h:Rise key (x::l)):∀ y∈l,key x<key y:=(List.pairwise_cons.1 h).1
theorem plc_look {k:Int}:∀ {l:List α},Rise key l→look key k l=(match l[plc key k l]? with | some y=>if key y=k then some y else none | none=>none)
 | [],_=>rfl
 | x::l,h=>by
  rw [look_cons]
  unfold plc
  by_cases c:key x<k
  ·rw [if_pos c,if_neg (by omega),plc_look h.tail]
   simp
  ·rw [if_neg c]
   by_cases e:key x=k
   ·simp [e]
   ·rw [if_neg e,Rise.below fun y hy=>by have:=h.head y hy;omega]
    simp [e]
theorem plc_there {k:Int} {l:List α} {y:α} (h:Rise key l) (a:l[plc key k l]?=some y) (e:key y=k):look key k l=some y:=by
 rw [plc_look h,a];simp [e]
theorem plc_absent {k:Int} {l:List α} (h:Rise key l) (a:∀ y,l[plc key k l]?=some y→key y≠k):look key k l=none:=by
 rw [plc_look h]
 cases q:l[plc key k l]? with
 | none=>rfl
 | some y=>simp [a y q]
theorem plc_found {k:Int} {l:List α} {y:α} (h:Rise key l) (a:look key k l=some y):l[plc key k l]?=some y∧key y=k:=by
 rw [plc_look h] at a
 cases q:l[plc key k l]? with
 | none=>rw [q] at a;cases a
 | some z =>
  rw [q] at a
  simp only at a
  split at a
  ·cases a;exact ⟨rfl,by assumption⟩
  ·cases a
theorem plc_found_lt {k:Int} {l:List α} {y:α} (h:Rise key l) (a:look key k l=some y):plc key k l<l.length:=(List.getElem?_eq_some_iff.1 (plc_found h a).1).1
theorem ins_there {x:α}:∀ {l:List α} {y:α},Rise key l→look key (key x) l=some y→ins key x l=l.set (plc key (key x) l) x
 | [],y,_,h=>by cases h
 | z::l,y,r,h=>by
  rw [look_cons] at h
  unfold ins plc
  by_cases c:key z<key x
  ·rw [if_pos c,if_pos c]
   rw [if_neg (by omega)] at h
   rw [List.set_cons_succ,ins_there r.tail h]
  ·rw [if_neg c,if_neg c]
   by_cases e:key z=key x
   ·rw [if_pos e];rfl
   ·rw [if_neg e] at h
    rw [Rise.below fun y hy=>by have:=r.head y hy;omega] at h
    cases h
theorem ins_new {x:α}:∀ {l:List α},look key (key x) l=none→ins key x l=l.take (plc key (key x) l)++x::l.drop (plc key (key x) l)
 | [],_=>rfl
 | z::l,h=>by
  rw [look_cons] at h
  unfold ins plc
  by_cases c:key z<key x
  ·rw [if_pos c,if_pos c]
   rw [if_neg (by omega)] at h
   rw [ins_new h]
   simp
  ·rw [if_neg c,if_neg c]
   by_cases e:key z=key x
   ·rw [if_pos e] at h;cases h
   ·rw [if_neg e];simp
theorem ins_all {P:α→Prop} {x:α} (hx:P x):∀ {l:List α},(∀ y∈l,P y)→∀ y∈ins key x l,P y
 | [],_,y,hy=>by
  rw [show ins key x []=[x] from rfl] at hy
  rw [List.mem_singleton.1 hy];exact hx
 | z::l,h,y,hy=>by
  unfold ins at hy
  split at hy
  ·rcases List.mem_cons.1 hy with rfl | q
   ·exact h y (List.mem_cons_self ..)
   ·exact ins_all hx (fun u hu=>h u (List.mem_cons_of_mem _ hu)) y q
  ·split at hy
   ·rcases List.mem_cons.1 hy with rfl | q
    ·exact hx
    ·exact h y (List.mem_cons_of_mem _ q)
   ·rcases List.mem_cons.1 hy with rfl | q
    ·exact hx
    ·exact h y q
theorem Rise.ins {x:α}:∀ {l:List α},Rise key l→Rise key (ins key x l)
 | [],_=>List.pairwise_singleton _ _
 | z::l,r=>by
  unfold Go.Proofs.YtjhaiiegdnamcabGreat.ins
  split
  ·rename_i c
   refine List.pairwise_cons.2 ⟨?_,Rise.ins r.tail⟩
   exact ins_all (P:=fun y=>key z<key y) c (fun y hy=>r.head y hy)
  ·rename_i c
   split
   ·rename_i e
    exact List.pairwise_cons.2 ⟨fun y hy=>by have:=r.head y hy;omega,r.tail⟩
   ·rename_i e
    refine List.pairwise_cons.2 ⟨fun y hy=>?_,r⟩
    rcases List.mem_cons.1 hy with rfl | q
    ·omega
    ·have:=r.head y q;omega
theorem look_ins {x:α} {k:Int}:∀ {l:List α},Rise key l→look key k (ins key x l)=if key x=k then some x else look key k l
 | [],_=>by rw [show ins key x []=[x] from rfl,look_cons]
 | z::l,r=>by
  unfold ins
  split
  ·rename_i c
   rw [look_cons,look_cons,look_ins r.tail]
   by_cases e:key z=k
   ·rw [if_pos e,if_pos e,if_neg (by omega)]
   ·rw [if_neg e,if_neg e]
  ·rename_i c
   split
   ·rename_i e
    rw [look_cons,look_cons]
    by_cases q:key x=k
    ·rw [if_pos q,if_pos q]
    ·rw [if_neg q,if_neg q,if_neg (by omega)]
   ·rename_i e
    rw [look_cons]
theorem ins_len_new {x:α} {l:List α} (h:look key (key x) l=none):(ins key x l).length=l.length+1:=by
 rw [ins_new h,List.length_append,List.length_cons,List.length_take,List.length_drop]
 have:=plc_le (key:=key) (key x) l
 omega
theorem ins_len_there {x:α} {l:List α} {y:α} (r:Rise key l) (h:look key (key x) l=some y):(ins key x l).length=l.length:=by
 rw [ins_there r h,List.length_set]
theorem ins_len {x:α} {l:List α} (r:Rise key l):(ins key x l).length≤l.length+1:=by
 cases h:look key (key x) l with
 | none=>rw [ins_len_new h];exact Nat.le_refl _
 | some y=>rw [ins_len_there r h];exact Nat.le_succ _
end
end Go.Proofs.YtjhaiiegdnamcabGreat
