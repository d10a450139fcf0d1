/- Sorted lists brought together: plain words. No Go in it. -/
set_option linter.unusedVariables false
namespace Go.Proofs.YtemijdhemdhclaaGreat
section
variable {α:Type} (key:α->Int)
def leastM:List (List α)->Option α
 | []=>none
 | []::r=>leastM r
 | (x::_)::r=>match leastM r with
  | none=>some x
  | some y=>if key y<key x then some y else some x
def pass (k:Int):List α->List α
 | []=>[]
 | x::l=>if key x=k then l else x::l
def Mg:List (List α)->List α->Prop
 | ls,[]=>leastM key ls=none
 | ls,x::out=>leastM key ls=some x/\Mg (ls.map (pass key (key x))) out
variable {key}
theorem Mg.done {ls:List (List α)} (h:leastM key ls=none):Mg key ls []:=by unfold Mg;exact h
theorem Mg.step {ls:List (List α)} {x:α} {out:List α} (h:leastM key ls=some x) (r:Mg key (ls.map (pass key (key x))) out):Mg key ls (x::out):=by unfold Mg;exact ⟨h,r⟩
theorem Mg.ind {motive:(ls:List (List α))->(out:List α)->Mg key ls out->Prop} (done:∀ {ls:List (List α)} (h:leastM key ls=none),motive ls [] (Mg.done h)) (step:∀ {ls:List (List α)} {x:α} {out:List α} (h:leastM key ls=some x) (r:Mg key (ls.map (pass key (key x))) out) (ih:motive _ out r),motive ls (x::out) (Mg.step h r)):∀ {ls:List (List α)} {out:List α} (h:Mg key ls out),motive ls out h:=by
 intro ls out;induction out generalizing ls with
 | nil=>intro h;exact done (by unfold Mg at h;exact h)
 | cons x out ih =>
  intro h;have h':=h;unfold Mg at h';exact step h'.1 h'.2 (ih h'.2)
theorem Mg.one {ls:List (List α)} {a b:List α} (h:Mg key ls a) (h':Mg key ls b):a=b:=by
 induction h using Mg.ind generalizing b with
 | done e =>
  cases b with
  | nil=>rfl
  | cons y b=>unfold Mg at h';rw [e] at h';cases h'.1
 | step e _ ih =>
  cases b with
  | nil=>unfold Mg at h';rw [e] at h';cases h'
  | cons y b =>
   unfold Mg at h';have q:=h'.1;rw [e] at q;cases q;rw [ih h'.2]
def sizes (ls:List (List α)):Nat:=(ls.map List.length).sum
theorem sizes_cons (l:List α) (ls:List (List α)):sizes (l::ls)=l.length+sizes ls:=by simp [sizes]
theorem pass_cons (k:Int) (x:α) (l:List α):pass key k (x::l)=if key x=k then l else x::l:=rfl
theorem pass_len (k:Int) (l:List α):(pass key k l).length<=l.length:=by
 cases l with
 | nil=>exact Nat.le_refl _
 | cons x l=>rw [pass_cons];split<;>simp
theorem passes_len (k:Int) (ls:List (List α)):sizes (ls.map (pass key k))<=sizes ls:=by
 induction ls with
 | nil=>exact Nat.le_refl _
 | cons l ls ih=>rw [List.map_cons,sizes_cons,sizes_cons];have:=pass_len (key:=key) k l;omega
theorem least_none {ls:List (List α)}:leastM key ls=none↔∀ l∈ls,l=[]:=by
 induction ls with
 | nil=>simp [leastM]
 | cons l ls ih =>
  cases l with
  | nil=>simp [leastM,ih]
  | cons x l =>
   simp only [leastM];constructor
   ·intro h;split at h
    ·cases h
    ·split at h<;>cases h
   ·intro h;have:=h _ (List.mem_cons_self ..);cases this
theorem least_some {ls:List (List α)} {x:α} (h:leastM key ls=some x):∃ a l b,ls=a++(x::l)::b/\(∀ y t,y::t∈a->key x<key y)/\(∀ y t,y::t∈ls->key x<=key y):=by
 induction ls generalizing x with
 | nil=>simp [leastM] at h
 | cons l ls ih =>
  cases l with
  | nil =>
   obtain ⟨a,l',b,e,h1,h2⟩:=ih (by simpa [leastM] using h)
   refine ⟨[]::a,l',b,by simp [e],fun y t hy=>?_,fun y t hy=>?_⟩
   ·rcases List.mem_cons.1 hy with q | q
    ·cases q
    ·exact h1 y t q
   ·rcases List.mem_cons.1 hy with q | q
    ·cases q
    ·exact h2 y t q
  | cons z l =>
   simp only [leastM] at h;split at h
   ·rename_i hn
    cases h
    refine ⟨[],l,ls,rfl,(fun y t hy=>by cases hy),fun y t hy=>?_⟩
    rcases List.mem_cons.1 hy with q | q
    ·cases q;exact Int.le_refl _
    ·have:=least_none.1 hn _ q;cases this
   ·rename_i y hy
    obtain ⟨a,l',b,e,h1,h2⟩:=ih hy;split at h
    ·rename_i lt
     cases h
     refine ⟨(z::l)::a,l',b,by simp [e],fun y' t hy'=>?_,fun y' t hy'=>?_⟩
     ·rcases List.mem_cons.1 hy' with q | q
      ·cases q;exact lt
      ·exact h1 y' t q
     ·rcases List.mem_cons.1 hy' with q | q
      ·cases q;exact Int.le_of_lt lt
      ·exact h2 y' t q
    ·rename_i ge
     cases h
     refine ⟨[],l,ls,rfl,(fun y t hy=>by cases hy),fun y' t hy'=>?_⟩
     rcases List.mem_cons.1 hy' with q | q
     ·cases q;exact Int.le_refl _
     ·have:=h2 y' t q;omega
theorem sizes_app (a b:List (List α)):sizes (a++b)=sizes a+sizes b:=by simp [sizes]
theorem passes_lt {ls:List (List α)} {x:α} (h:leastM key ls=some x):sizes (ls.map (pass key (key x)))<sizes ls:=by
 obtain ⟨a,l,b,e,_,_⟩:=least_some h;rw [e,List.map_append,List.map_cons,sizes_app,sizes_app,sizes_cons,sizes_cons];have h1:=passes_len (key:=key) (key x) a;have h2:=passes_len (key:=key) (key x) b;have h3:(pass key (key x) (x::l)).length=l.length:=by simp [pass]
 rw [h3];simp;omega
theorem Mg.few {ls:List (List α)} {out:List α} (h:Mg key ls out):out.length<=sizes ls:=by
 induction h using Mg.ind with
 | done _=>exact Nat.zero_le _
 | step e _ ih=>have:=passes_lt e;simp;omega
def Rise (key:α->Int) (l:List α):Prop:=l.Pairwise fun a b=>key a<key b
def look (key:α->Int) (k:Int) (l:List α):Option α:=l.find? fun x=>key x == k
theorem look_nil (k:Int):look key k []=none:=rfl
theorem look_cons (k:Int) (x:α) (l:List α):look key k (x::l)=if key x=k then some x else look key k l:=by
 unfold look;rw [List.find?_cons];by_cases h:key x=k
 ·simp [h]
 ·rw [if_neg h,show (key x == k)=false by simpa using h]
theorem look_key {k:Int} {l:List α} {x:α} (h:look key k l=some x):key x=k:=by
 have:=List.find?_some h
 simpa using this
theorem Rise.below {k:Int} {l:List α} (h:∀ x∈l,k<key x):look key k l=none:=by
 unfold look;rw [List.find?_eq_none];intro x hx;have:=h x hx;simp;omega
theorem Rise.eq:∀ {a b:List α},Rise key a->Rise key b->(∀ k,look key k a=look key k b)->a=b
 | [],[],_,_,_=>rfl
 | [],y::b,_,_,h=>by have:=h (key y);rw [look_nil,look_cons,if_pos rfl] at this;cases this
 | x::a,[],_,_,h=>by have:=h (key x);rw [look_nil,look_cons,if_pos rfl] at this;cases this
 | x::a,y::b,ha,hb,h=>by
  obtain ⟨a1,a2⟩:=List.pairwise_cons.1 ha;obtain ⟨b1,b2⟩:=List.pairwise_cons.1 hb;have xy:key x=key y:=by
   rcases Int.lt_trichotomy (key x) (key y) with q | q | q
   ·have e:=h (key x)
    rw [look_cons,if_pos rfl,look_cons,if_neg (by omega),Rise.below fun z hz=>by have:=b1 z hz;omega] at e
    cases e
   ·exact q
   ·have e:=h (key y)
    rw [look_cons,if_neg (by omega),Rise.below (fun z hz=>by have:=a1 z hz;omega),look_cons,if_pos rfl] at e
    cases e
  have e:=h (key x);rw [look_cons,if_pos rfl,look_cons,if_pos xy.symm] at e;cases e;have:a=b:=Rise.eq a2 b2 fun k=>by
   have e:=h k;rw [look_cons,look_cons] at e;by_cases q:key x=k
   ·subst q
    rw [Rise.below a1,Rise.below b1]
   ·rw [if_neg q,if_neg q] at e
    exact e
  rw [this]
def firstOf (key:α->Int) (k:Int):List (List α)->Option α
 | []=>none
 | l::r=>match look key k l with
  | some x=>some x
  | none=>firstOf key k r
theorem Rise.pass {k:Int} {l:List α} (h:Rise key l):Rise key (pass key k l):=by
 cases l with
 | nil=>exact h
 | cons x l=>rw [pass_cons];split;exact (List.pairwise_cons.1 h).2;exact h
theorem pass_above {k:Int} {l:List α} (h:Rise key l) (hk:∀ y t,l=y::t->k<=key y):∀ y∈pass key k l,k<key y:=by
 cases l with
 | nil=>intro y hy;cases hy
 | cons x l =>
  obtain ⟨h1,h2⟩:=List.pairwise_cons.1 h;have:=hk x l rfl;rw [pass_cons];split
  ·intro y hy;have:=h1 y hy;omega
  ·intro y hy
   rcases List.mem_cons.1 hy with rfl | q
   ·omega
   ·have:=h1 y q;omega
theorem pass_look {k k':Int} {l:List α} (n:k'≠k):look key k' (pass key k l)=look key k' l:=by
 cases l with
 | nil=>rfl
 | cons x l =>
  rw [pass_cons];split
  ·rename_i e
   rw [look_cons,if_neg (by omega)]
  ·rfl
theorem firstOf_pass {k k':Int} (n:k'≠k):∀ ls:List (List α),firstOf key k' (ls.map (pass key k))=firstOf key k' ls
 | []=>rfl
 | l::r=>by simp only [List.map_cons,firstOf,pass_look n,firstOf_pass n r]
theorem firstOf_none {k:Int}:∀ {ls:List (List α)},(∀ l∈ls,look key k l=none)->firstOf key k ls=none
 | [],_=>rfl
 | l::r,h=>by simp only [firstOf,h l (List.mem_cons_self ..)];exact firstOf_none fun l hl=>h l (List.mem_cons_of_mem _ hl)
theorem firstOf_app {k:Int} (b:List (List α)):∀ a:List (List α),(∀ l∈a,look key k l=none)->firstOf key k (a++b)=firstOf key k b
 | [],_=>rfl
 | l::r,h=>by simp only [List.cons_append,firstOf,h l (List.mem_cons_self ..)];exact firstOf_app b r fun l hl=>h l (List.mem_cons_of_mem _ hl)
theorem Mg.once {ls:List (List α)} {out:List α} (h:Mg key ls out) (rs:∀ l∈ls,Rise key l):Rise key out/\∀ k,look key k out=firstOf key k ls:=by
 induction h using Mg.ind with
 | done e =>
  refine ⟨List.Pairwise.nil,fun k=>?_⟩
  rw [firstOf_none fun l hl=>by rw [least_none.1 e l hl];rfl]
  rfl
 | @step ls x out e r ih =>
  obtain ⟨a,l,b,el,h1,h2⟩:=least_some e;obtain ⟨q1,q2⟩:=ih fun l' hl'=>by
   obtain ⟨l,hl,rfl⟩:=List.mem_map.1 hl';exact (rs l hl).pass
  have ab:∀ y∈out,key x<key y:=fun y hy=>by
   have hs:look key (key y) out=some y:=by
    have:∀ (o:List α),Rise key o->y∈o->look key (key y) o=some y:=by
     intro o;induction o with
     | nil=>intro _ h;cases h
     | cons z o ih =>
      intro hr hy;obtain ⟨z1,z2⟩:=List.pairwise_cons.1 hr;rw [look_cons];rcases List.mem_cons.1 hy with rfl | q
      ·rw [if_pos rfl]
      ·have:=z1 y q
       rw [if_neg (by omega)]
       exact ih z2 q
    exact this out q1 hy
   rw [q2] at hs;have:∀ ls':List (List α),(∀ l∈ls',∀ z∈l,key x<key z)->∀ z,firstOf key (key y) ls'=some z->key x<key y:=by
    intro ls';induction ls' with
    | nil=>intro _ z hz;cases hz
    | cons l' r' ih' =>
     intro hl z hz;simp only [firstOf] at hz;cases hh:look key (key y) l' with
     | some u =>
      have hm:=List.mem_of_find?_eq_some hh;have:=hl l' (List.mem_cons_self ..) u hm;have:=look_key hh;omega
     | none =>
      rw [hh] at hz;exact ih' (fun l hl'=>hl l (List.mem_cons_of_mem _ hl')) z hz
   refine this _ (fun l' hl'=>?_) y hs
   obtain ⟨l,hl,rfl⟩:=List.mem_map.1 hl';exact pass_above (rs l hl) fun y t e=>h2 y t (by rw [<-e];exact hl)
  refine ⟨List.pairwise_cons.2 ⟨ab,q1⟩,fun k=>?_⟩
  rw [look_cons];by_cases ek:key x=k
  ·rw [if_pos ek]
   subst ek;rw [el,firstOf_app]
   ·simp only [firstOf,look_cons,if_true]
   ·intro l' hl'
    cases l' with
    | nil=>rfl
    | cons y t =>
     have h3:=h1 y t hl';refine Rise.below fun z hz=>?_
     have hr:=rs (y::t) (by rw [el];exact List.mem_append_left _ hl')
     rcases List.mem_cons.1 hz with rfl | q
     ·exact h3
     ·have:=(List.pairwise_cons.1 hr).1 z q
      omega
  ·rw [if_neg ek,q2,firstOf_pass (Ne.symm ek)]
theorem look_filter {l:List α} (h:Rise key l) (p:α->Bool) (k:Int):look key k (l.filter p)=(look key k l).filter p:=by
 induction l with
 | nil=>rfl
 | cons x l ih =>
  obtain ⟨h1,h2⟩:=List.pairwise_cons.1 h;have ih:=ih h2;rw [look_cons,List.filter_cons];by_cases e:key x=k
  ·rw [if_pos e]
   by_cases q:p x=true
   ·rw [if_pos q,look_cons,if_pos e]
    simp [Option.filter,q]
   ·rw [if_neg q,ih,Rise.below (by rw [<-e];exact h1)]
    simp [Option.filter,q]
  ·rw [if_neg e]
   by_cases q:p x=true
   ·rw [if_pos q,look_cons,if_neg e,ih]
   ·rw [if_neg q,ih]
theorem Rise.filter {l:List α} (h:Rise key l) (p:α->Bool):Rise key (l.filter p):=List.Pairwise.filter p h
theorem pass_mem {k:Int} {l:List α} {x:α} (h:x∈pass key k l):x∈l:=by
 cases l with
 | nil=>exact h
 | cons y l =>
  rw [pass_cons] at h;split at h
  ·exact List.mem_cons_of_mem _ h
  ·exact h
end
section
variable {α:Type} {key:α->Int}
def plc (key:α->Int) (k:Int):List α->Nat
 | []=>0
 | y::l=>if key y<k then plc key k l+1 else 0
def ins (key:α->Int) (x:α):List α->List α
 | []=>[x]
 | y::l=>if key y<key x then y::ins key x l else if key y=key x then x::l else x::y::l
theorem plc_le (k:Int):∀ l:List α,plc key k l<=l.length
 | []=>Nat.le_refl _
 | y::l=>by
  have:=plc_le k l
  unfold plc;split
  ·simp;omega
  ·simp
theorem plc_one {k:Int}:∀ {l:List α} {i:Nat},i<=l.length->(∀ t y,t<i->l[t]?=some y->key y<k)->(∀ y,l[i]?=some y->¬ key y<k)->plc key k l=i
 | [],i,hi,_,_=>by simp at hi;subst hi;rfl
 | x::l,0,_,_,h2=>by
  have:=h2 x (by simp)
  unfold plc;rw [if_neg this]
 | x::l,i+1,hi,h1,h2=>by
  have:=h1 0 x (by omega) (by simp)
  unfold plc;rw [if_pos this,plc_one (by simpa using hi) (fun t y ht h=>h1 (t+1) y (by omega) (by simpa using h)) (fun y h=>h2 y (by simpa using h))]
theorem Rise.tail {x:α} {l:List α} (h:Rise key (x::l)):Rise key l:=(List.pairwise_cons.1 h).2
theorem Rise.head {x:α} {l:List α} (h:Rise key (x::l)):∀ y∈l,key x<key y:=(List.pairwise_cons.1 h).1
theorem plc_look {k:Int}:∀ {l:List α},Rise key l->look key k l=(match l[plc key k l]? with | some y=>if key y=k then some y else none | none=>none)
 | [],_=>rfl
 | x::l,h=>by
  rw [look_cons];unfold plc;by_cases c:key x<k
  ·rw [if_pos c,if_neg (by omega),plc_look h.tail]
   simp
  ·rw [if_neg c]
   by_cases e:key x=k
   ·simp [e]
   ·rw [if_neg e,Rise.below fun y hy=>by have:=h.head y hy;omega]
    simp [e]
theorem plc_there {k:Int} {l:List α} {y:α} (h:Rise key l) (a:l[plc key k l]?=some y) (e:key y=k):look key k l=some y:=by
 rw [plc_look h,a];simp [e]
theorem plc_absent {k:Int} {l:List α} (h:Rise key l) (a:∀ y,l[plc key k l]?=some y->key y≠k):look key k l=none:=by
 rw [plc_look h];cases q:l[plc key k l]? with
 | none=>rfl
 | some y=>simp [a y q]
theorem plc_found {k:Int} {l:List α} {y:α} (h:Rise key l) (a:look key k l=some y):l[plc key k l]?=some y/\key y=k:=by
 rw [plc_look h] at a;cases q:l[plc key k l]? with
 | none=>rw [q] at a;cases a
 | some z =>
  rw [q] at a;simp only at a;split at a
  ·cases a;exact ⟨rfl,by assumption⟩
  ·cases a
theorem plc_found_lt {k:Int} {l:List α} {y:α} (h:Rise key l) (a:look key k l=some y):plc key k l<l.length:=(List.getElem?_eq_some_iff.1 (plc_found h a).1).1
theorem ins_there {x:α}:∀ {l:List α} {y:α},Rise key l->look key (key x) l=some y->ins key x l=l.set (plc key (key x) l) x
 | [],y,_,h=>by cases h
 | z::l,y,r,h=>by
  rw [look_cons] at h;unfold ins plc;by_cases c:key z<key x
  ·rw [if_pos c,if_pos c]
   rw [if_neg (by omega)] at h
   rw [List.set_cons_succ,ins_there r.tail h]
  ·rw [if_neg c,if_neg c]
   by_cases e:key z=key x
   ·rw [if_pos e];rfl
   ·rw [if_neg e] at h
    rw [Rise.below fun y hy=>by have:=r.head y hy;omega] at h
    cases h
theorem ins_new {x:α}:∀ {l:List α},look key (key x) l=none->ins key x l=l.take (plc key (key x) l)++x::l.drop (plc key (key x) l)
 | [],_=>rfl
 | z::l,h=>by
  rw [look_cons] at h;unfold ins plc;by_cases c:key z<key x
  ·rw [if_pos c,if_pos c]
   rw [if_neg (by omega)] at h
   rw [ins_new h];simp
  ·rw [if_neg c,if_neg c]
   by_cases e:key z=key x
   ·rw [if_pos e] at h;cases h
   ·rw [if_neg e];simp
theorem ins_all {P:α->Prop} {x:α} (hx:P x):∀ {l:List α},(∀ y∈l,P y)->∀ y∈ins key x l,P y
 | [],_,y,hy=>by
  rw [show ins key x []=[x] from rfl] at hy;rw [List.mem_singleton.1 hy];exact hx
 | z::l,h,y,hy=>by
  unfold ins at hy;split at hy
  ·rcases List.mem_cons.1 hy with rfl | q
   ·exact h y (List.mem_cons_self ..)
   ·exact ins_all hx (fun u hu=>h u (List.mem_cons_of_mem _ hu)) y q
  ·split at hy
   ·rcases List.mem_cons.1 hy with rfl | q
    ·exact hx
    ·exact h y (List.mem_cons_of_mem _ q)
   ·rcases List.mem_cons.1 hy with rfl | q
    ·exact hx
    ·exact h y q
theorem Rise.ins {x:α}:∀ {l:List α},Rise key l->Rise key (ins key x l)
 | [],_=>List.pairwise_singleton _ _
 | z::l,r=>by
  unfold Go.Proofs.YtemijdhemdhclaaGreat.ins;split
  ·rename_i c
   refine List.pairwise_cons.2 ⟨?_,Rise.ins r.tail⟩;exact ins_all (P:=fun y=>key z<key y) c (fun y hy=>r.head y hy)
  ·rename_i c
   split
   ·rename_i e
    exact List.pairwise_cons.2 ⟨fun y hy=>by have:=r.head y hy;omega,r.tail⟩
   ·rename_i e
    refine List.pairwise_cons.2 ⟨fun y hy=>?_,r⟩
    rcases List.mem_cons.1 hy with rfl | q
    ·omega
    ·have:=r.head y q;omega
theorem look_ins {x:α} {k:Int}:∀ {l:List α},Rise key l->look key k (ins key x l)=if key x=k then some x else look key k l
 | [],_=>by rw [show ins key x []=[x] from rfl,look_cons]
 | z::l,r=>by
  unfold ins;split
  ·rename_i c
   rw [look_cons,look_cons,look_ins r.tail];by_cases e:key z=k
   ·rw [if_pos e,if_pos e,if_neg (by omega)]
   ·rw [if_neg e,if_neg e]
  ·rename_i c
   split
   ·rename_i e
    rw [look_cons,look_cons];by_cases q:key x=k
    ·rw [if_pos q,if_pos q]
    ·rw [if_neg q,if_neg q,if_neg (by omega)]
   ·rename_i e
    rw [look_cons]
theorem ins_len_new {x:α} {l:List α} (h:look key (key x) l=none):(ins key x l).length=l.length+1:=by
 rw [ins_new h,List.length_append,List.length_cons,List.length_take,List.length_drop];have:=plc_le (key:=key) (key x) l;omega
theorem ins_len_there {x:α} {l:List α} {y:α} (r:Rise key l) (h:look key (key x) l=some y):(ins key x l).length=l.length:=by
 rw [ins_there r h,List.length_set]
theorem ins_len {x:α} {l:List α} (r:Rise key l):(ins key x l).length<=l.length+1:=by
 cases h:look key (key x) l with
 | none=>rw [ins_len_new h];exact Nat.le_refl _
 | some y=>rw [ins_len_there r h];exact Nat.le_succ _
end
structure Lst (α:Type) where
 b:Nat
 off:Nat
 c:Nat
 l:List α
structure Hd (α:Type) where
 k:Int
 i:Nat
 s:Lst α
def hd0 {α:Type}:Hd α:=⟨0,0,⟨0,0,0,[]⟩⟩
section
variable {α:Type}
def Hd.lt (a b:Hd α):Prop:=a.k<b.k\/a.k=b.k/\a.i<b.i
def aheadB (a b:Hd α):Bool:=decide (a.k<b.k)||(decide (a.k=b.k)&&decide (a.i<b.i))
theorem aheadB_iff {a b:Hd α}:aheadB a b=true↔a.lt b:=by simp [aheadB,Hd.lt]
theorem aheadB_not {a b:Hd α}:aheadB a b=false↔¬ a.lt b:=by rw [<-aheadB_iff];simp
theorem Hd.lt.asymm {a b:Hd α} (h:a.lt b):¬ b.lt a:=by simp only [Hd.lt] at *;omega
theorem Hd.nlt_trans {a b c:Hd α} (h:¬ a.lt b) (k:¬ b.lt c):¬ a.lt c:=by simp only [Hd.lt] at *;omega
theorem Hd.nlt_lt {a b c:Hd α} (h:¬ a.lt b) (k:c.lt b):¬ a.lt c:=by simp only [Hd.lt] at *;omega
def gt (H:List (Hd α)) (i:Nat):Hd α:=H.getD i hd0
def HeapOn (H:List (Hd α)):Prop:=∀ i,0<i->i<H.length->¬ (gt H i).lt (gt H ((i-1)/2))
def RiseOn (H:List (Hd α)) (a:Nat):Prop:=(∀ i,0<i->i<H.length->i≠a->¬ (gt H i).lt (gt H ((i-1)/2)))/\(∀ c,0<c->c<H.length->(c-1)/2=a->0<a->¬ (gt H c).lt (gt H ((a-1)/2)))
def SinkOn (H:List (Hd α)) (a:Nat):Prop:=(∀ i,0<i->i<H.length->(i-1)/2≠a->¬ (gt H i).lt (gt H ((i-1)/2)))/\(∀ c,0<c->c<H.length->(c-1)/2=a->0<a->¬ (gt H c).lt (gt H ((a-1)/2)))
def swp (H:List (Hd α)) (i j:Nat):List (Hd α):=(H.set i (gt H j)).set j (gt H i)
theorem swp_len (H:List (Hd α)) (i j:Nat):(swp H i j).length=H.length:=by simp [swp]
theorem gt_set (H:List (Hd α)) (i:Nat) (x:Hd α) (hi:i<H.length) (j:Nat):gt (H.set i x) j=if j=i then x else gt H j:=by
 unfold gt;rw [List.getD_eq_getElem?_getD,List.getD_eq_getElem?_getD,List.getElem?_set];by_cases h:i=j
 ·subst h;simp [hi]
 ·rw [if_neg h,if_neg (Ne.symm h)]
theorem gt_swp (H:List (Hd α)) {i j:Nat} (hi:i<H.length) (hj:j<H.length) (q:Nat):gt (swp H i j) q=if q=j then gt H i else if q=i then gt H j else gt H q:=by
 unfold swp;rw [gt_set _ _ _ (by simpa using hj),gt_set _ _ _ hi]
theorem swp_perm (H:List (Hd α)) {i j:Nat} (hi:i<H.length) (hj:j<H.length):(swp H i j).Perm H:=by
 unfold swp gt;have e1:H.getD j hd0=H[j]:=by simp [List.getD,hj]
 have e2:H.getD i hd0=H[i]:=by simp [List.getD,hi]
 rw [e1,e2];exact List.set_set_perm hi hj
theorem RiseOn.done {H:List (Hd α)} {a:Nat} (h:RiseOn H a) (e:a=0\/¬ (gt H a).lt (gt H ((a-1)/2))):HeapOn H:=by
 intro i h0 hi;by_cases q:i=a
 ·subst q
  rcases e with e | e
  ·omega
  ·exact e
 ·exact h.1 i h0 hi q
theorem RiseOn.step {H:List (Hd α)} {a:Nat} (h:RiseOn H a) (ha:a<H.length) (h0:0<a) (lt:(gt H a).lt (gt H ((a-1)/2))):RiseOn (swp H a ((a-1)/2)) ((a-1)/2):=by
 obtain ⟨u,hu⟩:∃ u,(a-1)/2=u:=⟨_,rfl⟩;rw [hu] at lt ⊢;have ul:u<H.length:=by omega
 have G:=gt_swp H ha ul;refine ⟨fun i i0 hi ne=>?_,fun c c0 hc ec u0=>?_⟩
 ·rw [swp_len] at hi
  rw [G i,G ((i-1)/2),if_neg ne];by_cases q:i=a
  ·subst q
   rw [if_pos rfl,hu,if_pos rfl];exact lt.asymm
  ·rw [if_neg q]
   by_cases q1:(i-1)/2=u
   ·rw [if_pos q1]
    have:=h.1 i i0 hi q
    rw [q1] at this;exact Hd.nlt_lt this lt
   ·rw [if_neg q1]
    by_cases q2:(i-1)/2=a
    ·rw [if_pos q2]
     have:=h.2 i i0 hi q2 h0
     rwa [hu] at this
    ·rw [if_neg q2]
     exact h.1 i i0 hi q
 ·rw [swp_len] at hc
  have e1:(u-1)/2≠u:=by omega
  have e2:(u-1)/2≠a:=by omega
  have e3:c≠u:=by omega
  rw [G c,G ((u-1)/2),if_neg e3,if_neg e1,if_neg e2];have e4:=h.1 u u0 ul (by omega)
  by_cases q:c=a
  ·rw [if_pos q];exact e4
  ·rw [if_neg q]
   have:=h.1 c c0 hc q
   rw [ec] at this;exact Hd.nlt_trans this e4
def BelowR (H:List (Hd α)) (a d:Nat):Prop:=(d=a/\∀ c,0<c->c<H.length->(c-1)/2=a->¬ (gt H c).lt (gt H a))\/(a<d/\d<H.length/\(d-1)/2=a/\(gt H d).lt (gt H a)/\∀ c,0<c->c<H.length->(c-1)/2=a->¬ (gt H c).lt (gt H d))
theorem SinkOn.done {H:List (Hd α)} {a:Nat} (h:SinkOn H a) (e:∀ c,0<c->c<H.length->(c-1)/2=a->¬ (gt H c).lt (gt H a)):HeapOn H:=by
 intro i h0 hi;by_cases q:(i-1)/2=a
 ·rw [q];exact e i h0 hi q
 ·exact h.1 i h0 hi q
theorem SinkOn.step {H:List (Hd α)} {a d:Nat} (h:SinkOn H a) (ad:a<d) (hd:d<H.length) (pd:(d-1)/2=a) (lt:(gt H d).lt (gt H a)) (e:∀ c,0<c->c<H.length->(c-1)/2=a->¬ (gt H c).lt (gt H d)):SinkOn (swp H a d) d:=by
 have G:=gt_swp H (show a<H.length by omega) hd
 refine ⟨fun i i0 hi ne=>?_,fun c c0 hc ec u0=>?_⟩
 ·rw [swp_len] at hi
  rw [G i,G ((i-1)/2),if_neg ne];by_cases q:i=d
  ·subst q
   rw [if_pos rfl,if_pos pd];exact lt.asymm
  ·rw [if_neg q]
   by_cases q1:i=a
   ·subst q1
    rw [if_pos rfl,if_neg (by omega)]
    exact h.2 d (by omega) hd pd i0
   ·rw [if_neg q1]
    by_cases q2:(i-1)/2=a
    ·rw [if_pos q2];exact e i i0 hi q2
    ·rw [if_neg q2];exact h.1 i i0 hi q2
 ·rw [swp_len] at hc
  have e1:c≠d:=by omega
  have e2:c≠a:=by omega
  rw [G c,G ((d-1)/2),if_neg e1,if_neg e2,if_neg (by omega),if_pos pd]
  have:=h.1 c c0 hc (by omega)
  rwa [ec] at this
theorem HeapOn.first {H:List (Hd α)} (h:HeapOn H):∀ (n i:Nat),i<=n->i<H.length->¬ (gt H i).lt (gt H 0)
 | 0,i,hn,hi=>by
  have:i=0:=by omega
  subst this;simp only [Hd.lt];omega
 | n+1,i,hn,hi=>by
  by_cases q:i=0
  ·subst q;simp only [Hd.lt];omega
  ·exact Hd.nlt_trans (h i (by omega) hi) (HeapOn.first h n ((i-1)/2) (by omega) (by omega))
theorem HeapOn.least {H:List (Hd α)} (h:HeapOn H) {x:Hd α} (hx:x∈H):¬ x.lt (gt H 0):=by
 obtain ⟨i,hi,rfl⟩:=List.mem_iff_getElem.1 hx;have:=h.first i i (Nat.le_refl _) hi;rwa [show gt H i=H[i] by simp [gt,List.getD,hi]] at this
theorem gt_app (H:List (Hd α)) (x:Hd α) (i:Nat):gt (H++[x]) i=if i<H.length then gt H i else if i=H.length then x else hd0:=by
 unfold gt;rw [List.getD_eq_getElem?_getD,List.getD_eq_getElem?_getD,List.getElem?_append];split
 ·rfl
 ·rename_i q
  by_cases e:i=H.length
  ·rw [if_pos e,e];simp
  ·rw [if_neg e,List.getElem?_eq_none (by simp;omega)];rfl
theorem HeapOn.app {H:List (Hd α)} (h:HeapOn H) (x:Hd α):RiseOn (H++[x]) H.length:=by
 refine ⟨fun i i0 hi ne=>?_,fun c c0 hc ec a0=>?_⟩
 ·have:i<H.length:=by simp at hi;omega
  rw [gt_app,gt_app,if_pos this,if_pos (by omega)]
  exact h i i0 this
 ·simp at hc;omega
def cutL (H:List (Hd α)):List (Hd α):=(H.set 0 (gt H (H.length-1))).take (H.length-1)
theorem cutL_len (H:List (Hd α)):(cutL H).length=H.length-1:=by simp [cutL]
theorem cutL_perm (H:List (Hd α)) (h0:0<H.length):H.Perm (gt H 0::cutL H):=by
 match H,h0 with
 | x::t,_ =>
  rcases List.eq_nil_or_concat t with rfl | ⟨t0,y,rfl⟩
  ·simp [gt,cutL]
  ·have e:gt (x::t0.concat y) ((x::t0.concat y).length-1)=y:=by simp [gt,List.concat_eq_append]
   unfold cutL;rw [e];simp only [List.concat_eq_append,List.set_cons_zero,List.length_cons,List.length_append,List.length_nil,Nat.zero_add,Nat.add_sub_cancel];show List.Perm _ (x::List.take (t0.length+1) (y::(t0++[y])));rw [List.take_succ_cons,List.take_left']
   ·exact List.Perm.cons _ (List.perm_append_comm (l₁:=t0) (l₂:=[y]))
   ·rfl
theorem gt_take (H:List (Hd α)) (n i:Nat) (hi:i<n):gt (H.take n) i=gt H i:=by
 unfold gt;rw [List.getD_eq_getElem?_getD,List.getD_eq_getElem?_getD,List.getElem?_take_of_lt hi]
theorem HeapOn.cut {H:List (Hd α)} (h:HeapOn H) (h0:0<H.length):SinkOn (cutL H) 0:=by
 refine ⟨fun i i0 hi ne=>?_,fun c c0 hc ec a0=>by omega⟩
 rw [cutL_len] at hi;unfold cutL;rw [gt_take _ _ _ hi,gt_take _ _ _ (by omega),gt_set _ _ _ h0,gt_set _ _ _ h0,if_neg (by omega),if_neg ne]
 exact h i i0 (by omega)
variable (key:α->Int) (sz:Nat)
def hd1 (i:Nat) (s:Lst α):List (Hd α):=match s.l with
 | []=>[]
 | x::_=>[⟨key x,i,s⟩]
def hds:Nat->List (Lst α)->List (Hd α)
 | _,[]=>[]
 | i,s::r=>hd1 key i s++hds (i+1) r
def adv (s:Lst α):Lst α:=⟨s.b,s.off+sz,s.c-1,s.l.tail⟩
def passS (k:Int) (s:Lst α):Lst α:=match s.l with
 | []=>s
 | x::_=>if key x=k then adv sz s else s
variable {key} {sz}
theorem passS_l (k:Int) (s:Lst α):(passS key sz k s).l=pass key k s.l:=by
 obtain ⟨b,off,c,l⟩:=s;cases l with
 | nil=>rfl
 | cons x t =>
  simp only [passS,pass];split<;>rfl
theorem hd1_mem {i:Nat} {s:Lst α} {h:Hd α} (m:h∈hd1 key i s):h.i=i/\h.s=s/\∃ x t,s.l=x::t/\h.k=key x:=by
 unfold hd1 at m;split at m
 ·cases m
 ·rename_i x t e
  have:h=⟨key x,i,s⟩:=by simpa using m
  subst this;exact ⟨rfl,rfl,x,t,e,rfl⟩
theorem hds_mem:∀ {L:List (Lst α)} {i:Nat} {h:Hd α},h∈hds key i L->h.s∈L/\i<=h.i/\h.i<i+L.length/\∃ x t,h.s.l=x::t/\h.k=key x
 | [],i,h,m=>by simp [hds] at m
 | s::r,i,h,m=>by
  rw [hds,List.mem_append] at m;rcases m with m | m
  ·obtain ⟨h1,h2,x,t,h3,h4⟩:=hd1_mem m
   exact ⟨by rw [h2];exact List.mem_cons_self ..,by omega,by simp;omega,x,t,by rw [h2];exact h3,h4⟩
  ·obtain ⟨h1,h2,h3,h4⟩:=hds_mem m
   exact ⟨List.mem_cons_of_mem _ h1,by omega,by simp;omega,h4⟩
theorem hds_of {L:List (Lst α)} {s:Lst α} (hs:s∈L) {x:α} {t:List α} (e:s.l=x::t):∀ i,∃ h∈hds key i L,h.s=s/\h.k=key x:=by
 induction L with
 | nil=>cases hs
 | cons a r ih =>
  intro i;rcases List.mem_cons.1 hs with rfl | q
  ·refine ⟨⟨key x,i,s⟩,?_,rfl,rfl⟩
   rw [hds,List.mem_append];left;unfold hd1;rw [e];exact List.mem_cons_self ..
  ·obtain ⟨h,h1,h2⟩:=ih q (i+1)
   exact ⟨h,by rw [hds,List.mem_append];exact .inr h1,h2⟩
theorem hds_nil {L:List (Lst α)} {i:Nat} (h:hds key i L=[]):leastM key (L.map Lst.l)=none:=by
 rw [least_none];intro l hl;obtain ⟨s,hs,rfl⟩:=List.mem_map.1 hl;cases e:s.l with
 | nil=>rfl
 | cons x t =>
  obtain ⟨y,hy,_⟩:=hds_of hs e i (key:=key);rw [h] at hy;cases hy
theorem hds_least:∀ {L:List (Lst α)} {i:Nat} {h:Hd α},h∈hds key i L->(∀ y∈hds key i L,¬ y.lt h)->∃ x t,h.s.l=x::t/\h.k=key x/\leastM key (L.map Lst.l)=some x
 | [],i,h,m,_=>by simp [hds] at m
 | s::r,i,h,m,mn=>by
  rw [hds,List.mem_append] at m;have mr:∀ y∈hds key (i+1) r,¬ y.lt h:=fun y hy=>mn y (by rw [hds,List.mem_append];exact .inr hy)
  rcases m with m | m
  ·obtain ⟨h1,h2,x,t,h3,h4⟩:=hd1_mem m
   refine ⟨x,t,by rw [h2];exact h3,h4,?_⟩
   rw [List.map_cons,h3];simp only [leastM];cases e:leastM key (r.map Lst.l) with
   | none=>rfl
   | some y =>
    obtain ⟨a,l,b,el,_,_⟩:=least_some e;have:(y::l)∈r.map Lst.l:=by rw [el];simp
    obtain ⟨s',hs',es⟩:=List.mem_map.1 this;obtain ⟨q,hq,_,qk⟩:=hds_of hs' es (i+1) (key:=key);have:=mr q hq;simp only [Hd.lt] at this;have nl:¬ key y<key x:=by omega
    simp [nl]
  ·obtain ⟨x,t,h1,h2,h3⟩:=hds_least m mr
   refine ⟨x,t,h1,h2,?_⟩;rw [List.map_cons];cases e:s.l with
   | nil=>simp only [leastM];exact h3
   | cons z u =>
    simp only [leastM,h3];obtain ⟨_,g1,_,_⟩:=hds_mem m;have:¬ (⟨key z,i,s⟩:Hd α).lt h:=mn _ (by rw [hds,List.mem_append];left;unfold hd1;rw [e];exact List.mem_cons_self ..)
    simp only [Hd.lt] at this;rw [if_pos (by omega)]
theorem hds_pass (k:Int):∀ (L:List (Lst α)) (i:Nat),(hds key i (L.map (passS key sz k))).Perm ((hds key i L).filter (fun h=>!decide (h.k=k))++((hds key i L).filter (fun h=>decide (h.k=k))).flatMap (fun h=>hd1 key h.i (adv sz h.s)))
 | [],i=>by simp [hds]
 | s::r,i=>by
  have ih:=hds_pass k r (i+1);rw [List.map_cons,hds,hds];rw [List.filter_append,List.filter_append,List.flatMap_append];cases e:s.l with
  | nil =>
   have e1:hd1 key i s=[]:=by unfold hd1;rw [e]
   have e2:hd1 key i (passS key sz k s)=[]:=by
    have:passS key sz k s=s:=by unfold passS;rw [e]
    rw [this];exact e1
   rw [e1,e2];simpa using ih
  | cons x t =>
   have e1:hd1 key i s=[⟨key x,i,s⟩]:=by unfold hd1;rw [e]
   rw [e1];by_cases q:key x=k
   ·have e2:passS key sz k s=adv sz s:=by unfold passS;rw [e];simp [q]
    rw [e2];simp only [List.filter_cons,List.filter_nil,q,decide_true,Bool.not_true,if_true,List.flatMap_cons,List.flatMap_nil,List.append_nil];refine (List.Perm.append_left _ ih).trans ?_;simp only [Bool.false_eq_true,if_false,List.nil_append];rw [<-List.append_assoc,<-List.append_assoc];exact List.Perm.append_right _ List.perm_append_comm
   ·have e2:passS key sz k s=s:=by unfold passS;rw [e];simp [q]
    rw [e2,e1];simp only [List.filter_cons,List.filter_nil,q,decide_false,Bool.not_false,if_true,Bool.false_eq_true,if_false,List.flatMap_nil,List.nil_append,List.cons_append];exact List.Perm.cons _ ih
theorem filter_all {β:Type} {p:β->Bool} {l:List β} (h:∀ x∈l,p x=true):l.filter p=l:=List.filter_eq_self.2 h
theorem filter_no {β:Type} {p:β->Bool} {l:List β} (h:∀ x∈l,p x=false):l.filter p=[]:=by
 rw [List.filter_eq_nil_iff];intro x hx;rw [h x hx];decide
theorem hds_next {L:List (Lst α)} {H P H' Hf:List (Hd α)} {k:Int} (hH:H.Perm (hds key 0 L)) (hP:(P++H').Perm H) (p1:∀ p∈P,p.k=k) (p2:∀ h∈H',h.k≠k) (hf:Hf.Perm (H'++P.flatMap (fun h=>hd1 key h.i (adv sz h.s)))):Hf.Perm (hds key 0 (L.map (passS key sz k))):=by
 have h1:=hds_pass (sz:=sz) k L 0 (key:=key);have e:=hP.trans hH;have f1:=e.filter (fun h:Hd α=>!decide (h.k=k))
 have f2:=e.filter (fun h:Hd α=>decide (h.k=k))
 rw [List.filter_append,filter_no (l:=P) (fun x hx=>by simp [p1 x hx]),filter_all (l:=H') (fun x hx=>by simp [p2 x hx]),List.nil_append] at f1
 rw [List.filter_append,filter_all (l:=P) (fun x hx=>by simp [p1 x hx]),filter_no (l:=H') (fun x hx=>by simp [p2 x hx]),List.append_nil] at f2
 exact hf.trans ((List.Perm.append f1 (f2.flatMap_right _)).trans h1.symm)
theorem hds_len:∀ (L:List (Lst α)) (i:Nat),(hds key i L).length<=L.length
 | [],i=>Nat.le_refl _
 | s::r,i=>by
  rw [hds,List.length_append];have:=hds_len r (i+1);have:(hd1 key i s).length<=1:=by unfold hd1;split<;>simp
  simp;omega
end
end Go.Proofs.YtemijdhemdhclaaGreat
