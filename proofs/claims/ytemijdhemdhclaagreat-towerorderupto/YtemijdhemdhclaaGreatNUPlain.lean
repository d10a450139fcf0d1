/- Layer 15 in plain words: classes of runs, what is newest and live, what a Take lays down. No Go in it. -/
import Derived.Test.YtemijdhemdhclaaGreatNVBuild
import Derived.Test.YtemijdhemdhclaaGreatNGLaw
set_option linter.unusedVariables false
namespace Go.Proofs.YtemijdhemdhclaaGreat
open Go.RowKit
structure Rn where
 p:Nat
 S:Nat->Prop
 eps:Int
 l:List Ent
 L:List (List Sg)
def ek (l:List Ent) (i:Nat):Int:=(l.getD i ent0).k
def ev (l:List Ent) (i:Nat):Int:=(l.getD i ent0).v
def eg (l:List Ent) (i:Nat):Bool:=(l.getD i ent0).g
def EOk (l:List Ent):Prop:=ChkR (ek l) (ev l) (eg l) l.length 0
theorem getD_lt {l:List Ent} {i:Nat} (hi:i<l.length):l.getD i ent0=l[i]:=by simp [List.getD,hi]
theorem EOk.iff {l:List Ent}:EOk l↔Rise Ent.k l/\∀ e∈l,¬ (e.g=true/\e.v≠0):=by
 unfold EOk;rw [show ChkR (ek l) (ev l) (eg l) l.length 0↔_ from ⟨fun h=>(ChkR.zero h).1 rfl,fun h=>ChkR.ok h.1 h.2⟩]
 refine and_congr rise_up.symm ⟨fun h e he=>?_,fun h j hj=>?_⟩
 ·obtain ⟨i,hi,rfl⟩:=List.mem_iff_getElem.1 he
  have:=h i hi
  unfold eg ev at this;rwa [getD_lt hi] at this
 ·unfold eg ev
  rw [getD_lt hj];exact h _ (List.getElem_mem hj)
theorem EOk.rise {l:List Ent} (h:EOk l):Rise Ent.k l:=(EOk.iff.1 h).1
theorem look_mem {l:List Ent} (h:Rise Ent.k l) {e:Ent} (he:e∈l):look Ent.k e.k l=some e:=by
 induction l with
 | nil=>cases he
 | cons z o ih =>
  obtain ⟨z1,z2⟩:=List.pairwise_cons.1 h;rw [look_cons];rcases List.mem_cons.1 he with rfl | q
  ·rw [if_pos rfl]
  ·have:=z1 e q
   rw [if_neg (by omega)]
   exact ih z2 q
theorem look_in {l:List Ent} {q:Int} {e:Ent} (h:look Ent.k q l=some e):e∈l/\e.k=q:=⟨List.mem_of_find?_eq_some h,look_key h⟩
def lookV (o:Option Ent):Value×Bool:=match o with
 | some e=>(entV e.k e.v e.g,true)
 | none=>(entV 0 0 false,false)
theorem getV_look {l:List Ent} (h:Rise Ent.k l) (q:Int):getV (ek l) (ev l) (eg l) l.length q=lookV (look Ent.k q l):=by
 have u:Up (ek l) l.length:=rise_up.1 h;unfold getV;cases hl:look Ent.k q l with
 | some e =>
  obtain ⟨he,hk⟩:=look_in hl;obtain ⟨i,hi,ei⟩:=List.mem_iff_getElem.1 he;have k1:ek l i=q:=by unfold ek;rw [getD_lt hi,ei,hk]
  have c:cntb (ek l) q l.length=i:=by rw [<-k1];exact cntb_key u hi
  rw [c,if_pos ⟨hi,k1⟩];unfold ek ev eg lookV;rw [getD_lt hi,ei]
 | none =>
  rw [if_neg]
  ·rfl
  ·rintro ⟨a,b⟩
   have hm:=List.getElem_mem a;have:=look_mem h hm;rw [show (l[cntb (ek l) q l.length]).k=q from by rw [<-getD_lt a];exact b] at this
   rw [this] at hl;cases hl
def ptr (o:Option Rn):Value:=match o with
 | some r=>.pointer (some ⟨r.p,0,none⟩)
 | none=>.pointer none
def lists (rs:List (Option Rn)):List (List Ent):=rs.filterMap (Option.map Rn.l)
theorem lists_some (r:Rn) (rs:List (Option Rn)):lists (some r::rs)=r.l::lists rs:=rfl
theorem lists_app (a b:List (Option Rn)):lists (a++b)=lists a++lists b:=List.filterMap_append
def tot (rs:List (Option Rn)):Nat:=sizes (lists rs)
theorem tot_none (rs:List (Option Rn)):tot (none::rs)=tot rs:=rfl
theorem tot_some (r:Rn) (rs:List (Option Rn)):tot (some r::rs)=r.l.length+tot rs:=by unfold tot;rw [lists_some,sizes_cons]
theorem tot_app (a b:List (Option Rn)):tot (a++b)=tot a+tot b:=by unfold tot;rw [lists_app,sizes_app]
theorem tot_take (rs:List (Option Rn)) (j:Nat):tot (rs.take j)+tot (rs.drop j)=tot rs:=by rw [<-tot_app,List.take_append_drop]
theorem lists_mem {rs:List (Option Rn)} {l:List Ent} (h:l∈lists rs):∃ r,some r∈rs/\r.l=l:=by
 obtain ⟨o,ho,e⟩:=List.mem_filterMap.1 h;cases o with
 | none=>cases e
 | some r=>exact ⟨r,ho,Option.some.inj e⟩
def nw (q:Int) (rs:List (Option Rn)):Option Ent:=firstOf Ent.k q (lists rs)
theorem nw_none (q:Int) (rs:List (Option Rn)):nw q (none::rs)=nw q rs:=rfl
theorem nw_some (q:Int) (r:Rn) (rs:List (Option Rn)):nw q (some r::rs)=(look Ent.k q r.l).or (nw q rs):=by
 unfold nw;rw [lists_some];simp only [firstOf];cases look Ent.k q r.l<;>rfl
theorem firstOf_or (q:Int) (a b:List (List Ent)):firstOf Ent.k q (a++b)=(firstOf Ent.k q a).or (firstOf Ent.k q b):=by
 induction a with
 | nil=>rfl
 | cons l a ih =>
  simp only [List.cons_append,firstOf];cases look Ent.k q l with
  | some e=>rfl
  | none=>exact ih
theorem nw_app (q:Int) (a b:List (Option Rn)):nw q (a++b)=(nw q a).or (nw q b):=by unfold nw;rw [lists_app,firstOf_or]
theorem nw_rep (q:Int) (n:Nat) (rs:List (Option Rn)):nw q (List.replicate n none++rs)=nw q rs:=by
 induction n with
 | zero=>rfl
 | succ n ih=>rw [List.replicate_succ,List.cons_append,nw_none];exact ih
def liveO (o:Option Ent):Bool:=match o with
 | some e=>!e.g
 | none=>false
def liveQ (rs:List (Option Rn)) (q:Int):Bool:=liveO (nw q rs)
def free:List (Option Rn)->Nat
 | []=>0
 | none::_=>0
 | some _::rs=>free rs+1
theorem free_at {rs:List (Option Rn)} {i:Nat} (h:∀ j,j<i->∃ r,rs[j]?=some (some r)) (hn:rs[i]?=some none\/rs.length=i):free rs=i:=by
 induction rs generalizing i with
 | nil =>
  rcases hn with q | q
  ·simp at q
  ·simpa [free] using q
 | cons o rs ih =>
  cases i with
  | zero =>
   rcases hn with q | q
   ·simp at q;subst q;rfl
   ·simp at q
  | succ i =>
   obtain ⟨r,hr⟩:=h 0 (by omega)
   simp at hr;subst hr;simp only [free];rw [ih (i:=i) (fun j hj=>by simpa using h (j+1) (by omega)) (by simpa using hn)]
theorem free_none {rs:List (Option Rn)} (h:free rs<rs.length):rs[free rs]?=some none:=by
 induction rs with
 | nil=>simp at h
 | cons o rs ih =>
  cases o with
  | none=>rfl
  | some x=>simp only [free,List.length_cons] at h ⊢;simpa using ih (by omega)
def freeC (rs:List (Option Rn)):Nat:=min (free rs) 39
structure TakeR (rs:List (Option Rn)) (l:List Ent) (o kept:List Ent):Prop where
 mg:Mg Ent.k (l::lists (rs.take (freeC rs+1))) o
 kp:kept=o.filter (keepP (liveQ (rs.drop (freeC rs+1))))
def took (rs:List (Option Rn)) (l:List Ent):Nat:=l.length+tot (rs.take (freeC rs+1))
def laid (rs:List (Option Rn)) (r:Option Rn):List (Option Rn):=List.replicate (freeC rs) none++r::rs.drop (freeC rs+1)
theorem laid_len {rs:List (Option Rn)} (h:rs.length=40) (r:Option Rn):(laid rs r).length=40:=by
 unfold laid freeC;simp;omega
section
variable {rs:List (Option Rn)} {l o kept:List Ent}
theorem TakeR.facts (h:TakeR rs l o kept) (hl:EOk l) (hr:∀ r,some r∈rs->EOk r.l):EOk o/\EOk kept:=by
 have ha:∀ m∈l::lists (rs.take (freeC rs+1)),EOk m:=fun m hm=>by
  rcases List.mem_cons.1 hm with rfl | q
  ·exact hl
  ·obtain ⟨r,h1,rfl⟩:=lists_mem q
   exact hr r (List.mem_of_mem_take h1)
 obtain ⟨r1,r2⟩:=h.mg.once (fun m hm=>(ha m hm).rise)
 have ho:EOk o:=EOk.iff.2 ⟨r1,fun e he=>by
  have q:=look_mem r1 he;rw [r2] at q;have:∀ ls:List (List Ent),(∀ m∈ls,EOk m)->firstOf Ent.k e.k ls=some e->¬ (e.g=true/\e.v≠0):=by
   intro ls;induction ls with
   | nil=>intro _ h;cases h
   | cons m ls ih =>
    intro hm hf;simp only [firstOf] at hf;cases hk:look Ent.k e.k m with
    | some x =>
     rw [hk] at hf;cases hf;exact (EOk.iff.1 (hm m (List.mem_cons_self ..))).2 e (look_in hk).1
    | none =>
     rw [hk] at hf;exact ih (fun m h=>hm m (List.mem_cons_of_mem _ h)) hf
  exact this _ ha q⟩
 refine ⟨ho,?_⟩;rw [h.kp];exact EOk.iff.2 ⟨ho.rise.filter _,fun e he=>(EOk.iff.1 ho).2 e (List.mem_filter.1 he).1⟩
theorem TakeR.few (h:TakeR rs l o kept):kept.length<=took rs l/\o.length<=took rs l:=by
 have a:=h.mg.few;rw [sizes_cons] at a;have b:kept.length<=o.length:=by rw [h.kp];exact List.length_filter_le ..
 unfold took tot;omega
theorem TakeR.look (h:TakeR rs l o kept) (hl:EOk l) (hr:∀ r,some r∈rs->EOk r.l) (q:Int):Go.Proofs.YtemijdhemdhclaaGreat.look Ent.k q o=(Go.Proofs.YtemijdhemdhclaaGreat.look Ent.k q l).or (nw q (rs.take (freeC rs+1))):=by
 have ha:∀ m∈l::lists (rs.take (freeC rs+1)),Rise Ent.k m:=fun m hm=>by
  rcases List.mem_cons.1 hm with rfl | q
  ·exact hl.rise
  ·obtain ⟨r,h1,rfl⟩:=lists_mem q
   exact (hr r (List.mem_of_mem_take h1)).rise
 rw [(h.mg.once ha).2 q];simp only [firstOf];unfold nw;cases Go.Proofs.YtemijdhemdhclaaGreat.look Ent.k q l<;>rfl
end
end Go.Proofs.YtemijdhemdhclaaGreat
