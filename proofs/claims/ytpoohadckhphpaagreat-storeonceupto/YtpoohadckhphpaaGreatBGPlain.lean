/- Sorted lists brought together: plain words. No Go in it. -/
set_option linter.unusedVariables false
namespace Go.Proofs.YtpoohadckhphpaaGreat
section
variable {α:Type} (key:α->Int)
def leastM:List (List α)->Option α
 | []=>none
 | []::r=>leastM r
 | (x::_)::r=>match leastM r with
  | none=>some x
  | some y=>if key y<key x then some y else some x
def pass (k:Int):List α->List α
 | []=>[]
 | x::l=>if key x=k then l else x::l
def Mg:List (List α)->List α->Prop
 | ls,[]=>leastM key ls=none
 | ls,x::out=>leastM key ls=some x/\Mg (ls.map (pass key (key x))) out
variable {key}
def sizes (ls:List (List α)):Nat:=(ls.map List.length).sum
theorem sizes_cons (l:List α) (ls:List (List α)):sizes (l::ls)=l.length+sizes ls:=by simp [sizes]
theorem sizes_app (a b:List (List α)):sizes (a++b)=sizes a+sizes b:=by simp [sizes]
def Rise (key:α->Int) (l:List α):Prop:=l.Pairwise fun a b=>key a<key b
def look (key:α->Int) (k:Int) (l:List α):Option α:=l.find? fun x=>key x == k
theorem look_cons (k:Int) (x:α) (l:List α):look key k (x::l)=if key x=k then some x else look key k l:=by
 unfold look;rw [List.find?_cons];by_cases h:key x=k
 ·simp [h]
 ·rw [if_neg h,show (key x == k)=false by simpa using h]
theorem look_key {k:Int} {l:List α} {x:α} (h:look key k l=some x):key x=k:=by
 have:=List.find?_some h
 simpa using this
theorem Rise.below {k:Int} {l:List α} (h:∀ x∈l,k<key x):look key k l=none:=by
 unfold look;rw [List.find?_eq_none];intro x hx;have:=h x hx;simp;omega
def firstOf (key:α->Int) (k:Int):List (List α)->Option α
 | []=>none
 | l::r=>match look key k l with
  | some x=>some x
  | none=>firstOf key k r
end
def frow (len a:Nat->Nat) (i:Nat):List (Nat×Nat):=(List.range' (a i) (len i-a i)).map fun j=>(i,j)
def froms (ln:Nat) (len a:Nat->Nat):List (List (Nat×Nat)):=(List.range ln).map (frow len a)
structure Lst (α:Type) where
 b:Nat
 off:Nat
 c:Nat
 l:List α
section
variable {α:Type}
variable (key:α->Int) (sz:Nat)
variable {key} {sz}
end
section
variable {α:Type} {key:α->Int}
def plc (key:α->Int) (k:Int):List α->Nat
 | []=>0
 | y::l=>if key y<k then plc key k l+1 else 0
def ins (key:α->Int) (x:α):List α->List α
 | []=>[x]
 | y::l=>if key y<key x then y::ins key x l else if key y=key x then x::l else x::y::l
theorem plc_le (k:Int):∀ l:List α,plc key k l<=l.length
 | []=>Nat.le_refl _
 | y::l=>by
  have:=plc_le k l
  unfold plc;split
  ·simp;omega
  ·simp
theorem plc_one {k:Int}:∀ {l:List α} {i:Nat},i<=l.length->(∀ t y,t<i->l[t]?=some y->key y<k)->(∀ y,l[i]?=some y->¬ key y<k)->plc key k l=i
 | [],i,hi,_,_=>by simp at hi;subst hi;rfl
 | x::l,0,_,_,h2=>by
  have:=h2 x (by simp)
  unfold plc;rw [if_neg this]
 | x::l,i+1,hi,h1,h2=>by
  have:=h1 0 x (by omega) (by simp)
  unfold plc;rw [if_pos this,plc_one (by simpa using hi) (fun t y ht h=>h1 (t+1) y (by omega) (by simpa using h)) (fun y h=>h2 y (by simpa using h))]
theorem Rise.tail {x:α} {l:List α} (h:Rise key (x::l)):Rise key l:=(List.pairwise_cons.1 h).2
theorem Rise.head {x:α} {l:List α} (h:Rise key (x::l)):∀ y∈l,key x<key y:=(List.pairwise_cons.1 h).1
theorem plc_look {k:Int}:∀ {l:List α},Rise key l->look key k l=(match l[plc key k l]? with | some y=>if key y=k then some y else none | none=>none)
 | [],_=>rfl
 | x::l,h=>by
  rw [look_cons];unfold plc;by_cases c:key x<k
  ·rw [if_pos c,if_neg (by omega),plc_look h.tail]
   simp
  ·rw [if_neg c]
   by_cases e:key x=k
   ·simp [e]
   ·rw [if_neg e,Rise.below fun y hy=>by have:=h.head y hy;omega]
    simp [e]
theorem plc_there {k:Int} {l:List α} {y:α} (h:Rise key l) (a:l[plc key k l]?=some y) (e:key y=k):look key k l=some y:=by
 rw [plc_look h,a];simp [e]
theorem plc_absent {k:Int} {l:List α} (h:Rise key l) (a:∀ y,l[plc key k l]?=some y->key y≠k):look key k l=none:=by
 rw [plc_look h];cases q:l[plc key k l]? with
 | none=>rfl
 | some y=>simp [a y q]
theorem plc_found {k:Int} {l:List α} {y:α} (h:Rise key l) (a:look key k l=some y):l[plc key k l]?=some y/\key y=k:=by
 rw [plc_look h] at a;cases q:l[plc key k l]? with
 | none=>rw [q] at a;cases a
 | some z =>
  rw [q] at a;simp only at a;split at a
  ·cases a;exact ⟨rfl,by assumption⟩
  ·cases a
theorem plc_found_lt {k:Int} {l:List α} {y:α} (h:Rise key l) (a:look key k l=some y):plc key k l<l.length:=(List.getElem?_eq_some_iff.1 (plc_found h a).1).1
theorem ins_there {x:α}:∀ {l:List α} {y:α},Rise key l->look key (key x) l=some y->ins key x l=l.set (plc key (key x) l) x
 | [],y,_,h=>by cases h
 | z::l,y,r,h=>by
  rw [look_cons] at h;unfold ins plc;by_cases c:key z<key x
  ·rw [if_pos c,if_pos c]
   rw [if_neg (by omega)] at h
   rw [List.set_cons_succ,ins_there r.tail h]
  ·rw [if_neg c,if_neg c]
   by_cases e:key z=key x
   ·rw [if_pos e];rfl
   ·rw [if_neg e] at h
    rw [Rise.below fun y hy=>by have:=r.head y hy;omega] at h
    cases h
theorem ins_new {x:α}:∀ {l:List α},look key (key x) l=none->ins key x l=l.take (plc key (key x) l)++x::l.drop (plc key (key x) l)
 | [],_=>rfl
 | z::l,h=>by
  rw [look_cons] at h;unfold ins plc;by_cases c:key z<key x
  ·rw [if_pos c,if_pos c]
   rw [if_neg (by omega)] at h
   rw [ins_new h];simp
  ·rw [if_neg c,if_neg c]
   by_cases e:key z=key x
   ·rw [if_pos e] at h;cases h
   ·rw [if_neg e];simp
theorem ins_all {P:α->Prop} {x:α} (hx:P x):∀ {l:List α},(∀ y∈l,P y)->∀ y∈ins key x l,P y
 | [],_,y,hy=>by
  rw [show ins key x []=[x] from rfl] at hy;rw [List.mem_singleton.1 hy];exact hx
 | z::l,h,y,hy=>by
  unfold ins at hy;split at hy
  ·rcases List.mem_cons.1 hy with rfl | q
   ·exact h y (List.mem_cons_self ..)
   ·exact ins_all hx (fun u hu=>h u (List.mem_cons_of_mem _ hu)) y q
  ·split at hy
   ·rcases List.mem_cons.1 hy with rfl | q
    ·exact hx
    ·exact h y (List.mem_cons_of_mem _ q)
   ·rcases List.mem_cons.1 hy with rfl | q
    ·exact hx
    ·exact h y q
theorem Rise.ins {x:α}:∀ {l:List α},Rise key l->Rise key (ins key x l)
 | [],_=>List.pairwise_singleton _ _
 | z::l,r=>by
  unfold Go.Proofs.YtpoohadckhphpaaGreat.ins;split
  ·rename_i c
   refine List.pairwise_cons.2 ⟨?_,Rise.ins r.tail⟩;exact ins_all (P:=fun y=>key z<key y) c (fun y hy=>r.head y hy)
  ·rename_i c
   split
   ·rename_i e
    exact List.pairwise_cons.2 ⟨fun y hy=>by have:=r.head y hy;omega,r.tail⟩
   ·rename_i e
    refine List.pairwise_cons.2 ⟨fun y hy=>?_,r⟩
    rcases List.mem_cons.1 hy with rfl | q
    ·omega
    ·have:=r.head y q;omega
theorem look_ins {x:α} {k:Int}:∀ {l:List α},Rise key l->look key k (ins key x l)=if key x=k then some x else look key k l
 | [],_=>by rw [show ins key x []=[x] from rfl,look_cons]
 | z::l,r=>by
  unfold ins;split
  ·rename_i c
   rw [look_cons,look_cons,look_ins r.tail];by_cases e:key z=k
   ·rw [if_pos e,if_pos e,if_neg (by omega)]
   ·rw [if_neg e,if_neg e]
  ·rename_i c
   split
   ·rename_i e
    rw [look_cons,look_cons];by_cases q:key x=k
    ·rw [if_pos q,if_pos q]
    ·rw [if_neg q,if_neg q,if_neg (by omega)]
   ·rename_i e
    rw [look_cons]
theorem ins_len_new {x:α} {l:List α} (h:look key (key x) l=none):(ins key x l).length=l.length+1:=by
 rw [ins_new h,List.length_append,List.length_cons,List.length_take,List.length_drop];have:=plc_le (key:=key) (key x) l;omega
theorem ins_len_there {x:α} {l:List α} {y:α} (r:Rise key l) (h:look key (key x) l=some y):(ins key x l).length=l.length:=by
 rw [ins_there r h,List.length_set]
theorem ins_len {x:α} {l:List α} (r:Rise key l):(ins key x l).length<=l.length+1:=by
 cases h:look key (key x) l with
 | none=>rw [ins_len_new h];exact Nat.le_refl _
 | some y=>rw [ins_len_there r h];exact Nat.le_succ _
end
end Go.Proofs.YtpoohadckhphpaaGreat
