/- Layer 15 in plain words: classes of runs, what is newest and live, what a Take lays down. No Go in it. -/
import Derived.Test.YtcboobmfnmgldaaGreatBVBuild
import Derived.Test.YtcboobmfnmgldaaGreatBGLaw
set_option linter.unusedVariables false
namespace Go.Proofs.YtcboobmfnmgldaaGreat
open Go.RowKit
structure Rn where
 p:Nat
 S:Nat->Prop
 eps:Int
 l:List ah
 L:List (List Sg)
def ek (l:List ah) (i:Nat):Int:=(l.getD i ax).k
def ev (l:List ah) (i:Nat):Int:=(l.getD i ax).v
def eg (l:List ah) (i:Nat):Bool:=(l.getD i ax).g
def aW (l:List ah):Prop:=dw (ek l) (ev l) (eg l) l.length 0
variable {l:List ah}
theorem jP {i:Nat} (hi:i<l.length):l.getD i ax=l[i]:=by simp [List.getD,hi]
theorem aW.iff:aW l↔aG ah.k l/\∀ e∈l,¬ (e.g=true/\e.v≠0):=by
 unfold aW;rw [show dw (ek l) (ev l) (eg l) l.length 0↔_ from ⟨fun h=>(dw.zero h).1 rfl,fun h=>dw.ok h.1 h.2⟩]
 refine and_congr ET.symm ⟨fun h e he=>?_,fun h j hj=>?_⟩
 ·obtain ⟨i,hi,rfl⟩:=List.mem_iff_getElem.1 he
  have:=h i hi
  unfold eg ev at this;rwa [jP hi] at this
 ·unfold eg ev
  rw [jP hj];exact h _ (List.getElem_mem hj)
theorem aW.rise (h:aW l):aG ah.k l:=(aW.iff.1 h).1
theorem aW.up (h:aW l):Up (ek l) l.length:=ET.1 h.rise
theorem vV (h:aG ah.k l) {e:ah} (he:e∈l):look ah.k e.k l=some e:=by
 induction l with
 | nil=>cases he
 | cons z o ih =>
  obtain ⟨z1,z2⟩:=List.pairwise_cons.1 h;rw [cN];rcases List.mem_cons.1 he with rfl | q
  ·rw [if_pos rfl]
  ·have:=z1 e q
   rw [if_neg (by omega)]
   exact ih z2 q
theorem vW {q:Int} {e:ah} (h:look ah.k q l=some e):e∈l/\e.k=q:=⟨List.mem_of_find?_eq_some h,vP h⟩
def de (o:Option ah):Value×Bool:=match o with
 | some e=>(mC e.k e.v e.g,true)
 | none=>(mC 0 0 false,false)
theorem Ot (h:aG ah.k l) (q:Int):jm (ek l) (ev l) (eg l) l.length q=de (look ah.k q l):=by
 have u:Up (ek l) l.length:=ET.1 h;unfold jm;cases hl:look ah.k q l with
 | some e =>
  obtain ⟨he,hk⟩:=vW hl;obtain ⟨i,hi,ei⟩:=List.mem_iff_getElem.1 he;have k1:ek l i=q:=by unfold ek;rw [jP hi,ei,hk]
  have c:aA (ek l) q l.length=i:=by rw [<-k1];exact aav u hi
  rw [c,if_pos ⟨hi,k1⟩];unfold ek ev eg de;rw [jP hi,ei]
 | none =>
  rw [if_neg]
  ·rfl
  ·rintro ⟨a,b⟩
   have hm:=List.getElem_mem a;have:=vV h hm;rw [show (l[aA (ek l) q l.length]).k=q from by rw [<-jP a];exact b] at this
   rw [this] at hl;cases hl
def ptr (o:Option Rn):Value:=match o with
 | some r=>BY (r.p)
 | none=>.pointer none
def lists (rs:List (Option Rn)):List (List ah):=rs.filterMap (Option.map Rn.l)
theorem Ou (r:Rn) (rs:List (Option Rn)):lists (some r::rs)=r.l::lists rs:=rfl
theorem pD (a b:List (Option Rn)):lists (a++b)=lists a++lists b:=List.filterMap_append
def tot (rs:List (Option Rn)):Nat:=aF (lists rs)
theorem vX (rs:List (Option Rn)):tot (none::rs)=tot rs:=rfl
theorem tR (r:Rn) (rs:List (Option Rn)):tot (some r::rs)=r.l.length+tot rs:=by unfold tot;rw [Ou,iF]
theorem vY (a b:List (Option Rn)):tot (a++b)=tot a+tot b:=by unfold tot;rw [pD,nQ]
theorem pE (rs:List (Option Rn)) (j:Nat):tot (rs.take j)+tot (rs.drop j)=tot rs:=by rw [<-vY,List.take_append_drop]
variable {rs:List (Option Rn)}
theorem Ov (h:l∈lists rs):∃ r,some r∈rs/\r.l=l:=by
 obtain ⟨o,ho,e⟩:=List.mem_filterMap.1 h;cases o with
 | none=>cases e
 | some r=>exact ⟨r,ho,Option.some.inj e⟩
def nw (q:Int) (rs:List (Option Rn)):Option ah:=cI ah.k q (lists rs)
theorem vZ (q:Int) (rs:List (Option Rn)):nw q (none::rs)=nw q rs:=rfl
theorem nU (q:Int) (r:Rn) (rs:List (Option Rn)):nw q (some r::rs)=(look ah.k q r.l).or (nw q rs):=by
 unfold nw;rw [Ou];simp only [cI];cases look ah.k q r.l<;>rfl
theorem aa8 (q:Int) (a b:List (List ah)):cI ah.k q (a++b)=(cI ah.k q a).or (cI ah.k q b):=by
 induction a with
 | nil=>rfl
 | cons l a ih =>
  simp only [List.cons_append,cI];cases look ah.k q l with
  | some e=>rfl
  | none=>exact ih
theorem Ow (q:Int) (a b:List (Option Rn)):nw q (a++b)=(nw q a).or (nw q b):=by unfold nw;rw [pD,aa8]
theorem v8 (q:Int) (n:Nat) (rs:List (Option Rn)):nw q (List.replicate n none++rs)=nw q rs:=by
 induction n with
 | zero=>rfl
 | succ n ih=>rw [List.replicate_succ,List.cons_append,vZ];exact ih
def gI (o:Option ah):Bool:=match o with
 | some e=>!e.g
 | none=>false
def aI (rs:List (Option Rn)) (q:Int):Bool:=gI (nw q rs)
def free:List (Option Rn)->Nat
 | []=>0
 | none::_=>0
 | some _::rs=>free rs+1
theorem Ox {i:Nat} (h:∀ j,j<i->∃ r,rs[j]?=some (some r)) (hn:rs[i]?=some none\/rs.length=i):free rs=i:=by
 induction rs generalizing i with
 | nil =>
  rcases hn with q | q
  ·simp at q
  ·simpa [free] using q
 | cons o rs ih =>
  cases i with
  | zero =>
   rcases hn with q | q
   ·simp at q;subst q;rfl
   ·simp at q
  | succ i =>
   obtain ⟨r,hr⟩:=h 0 (by omega)
   simp at hr;subst hr;simp only [free];rw [ih (i:=i) (fun j hj=>by simpa using h (j+1) (by omega)) (by simpa using hn)]
theorem aa9 (h:free rs<rs.length):rs[free rs]?=some none:=by
 induction rs with
 | nil=>simp at h
 | cons o rs ih =>
  cases o with
  | none=>rfl
  | some x=>simp only [free,List.length_cons] at h ⊢;simpa using ih (by omega)
def aZ (rs:List (Option Rn)):Nat:=min (free rs) 39
structure iV (rs:List (Option Rn)) (l:List ah) (o kept:List ah):Prop where
 mg:Mg ah.k (l::lists (rs.take (aZ rs+1))) o
 kp:kept=o.filter (bB (aI (rs.drop (aZ rs+1))))
def took (rs:List (Option Rn)) (l:List ah):Nat:=l.length+tot (rs.take (aZ rs+1))
def laid (rs:List (Option Rn)) (r:Option Rn):List (Option Rn):=List.replicate (aZ rs) none++r::rs.drop (aZ rs+1)
theorem aa' (h:rs.length=40) (r:Option Rn):(laid rs r).length=40:=by
 unfold laid aZ;simp;omega
section
variable {rs:List (Option Rn)} {l o kept:List ah}
theorem iV.facts (h:iV rs l o kept) (hl:aW l) (hr:∀ r,some r∈rs->aW r.l):aW o/\aW kept:=by
 have ha:∀ m∈l::lists (rs.take (aZ rs+1)),aW m:=fun m hm=>by
  rcases List.mem_cons.1 hm with rfl | q
  ·exact hl
  ·obtain ⟨r,h1,rfl⟩:=Ov q
   exact hr r (List.mem_of_mem_take h1)
 obtain ⟨r1,r2⟩:=h.mg.once (fun m hm=>(ha m hm).rise)
 have ho:aW o:=aW.iff.2 ⟨r1,fun e he=>by
  have q:=vV r1 he;rw [r2] at q;have:∀ ls:List (List ah),(∀ m∈ls,aW m)->cI ah.k e.k ls=some e->¬ (e.g=true/\e.v≠0):=by
   intro ls;induction ls with
   | nil=>intro _ h;cases h
   | cons m ls ih =>
    intro hm hf;simp only [cI] at hf;cases hk:look ah.k e.k m with
    | some x =>
     rw [hk] at hf;cases hf;exact (aW.iff.1 (hm m (List.mem_cons_self ..))).2 e (vW hk).1
    | none =>
     rw [hk] at hf;exact ih (fun m h=>hm m (List.mem_cons_of_mem _ h)) hf
  exact this _ ha q⟩
 refine ⟨ho,?_⟩;rw [h.kp];exact aW.iff.2 ⟨ho.rise.filter _,fun e he=>(aW.iff.1 ho).2 e (List.mem_filter.1 he).1⟩
theorem iV.few (h:iV rs l o kept):kept.length<=took rs l/\o.length<=took rs l:=by
 have a:=h.mg.few;rw [iF] at a;have b:kept.length<=o.length:=by rw [h.kp];exact List.length_filter_le ..
 unfold took tot;omega
theorem iV.look (h:iV rs l o kept) (hl:aW l) (hr:∀ r,some r∈rs->aW r.l) (q:Int):Go.Proofs.YtcboobmfnmgldaaGreat.look ah.k q o=(Go.Proofs.YtcboobmfnmgldaaGreat.look ah.k q l).or (nw q (rs.take (aZ rs+1))):=by
 have ha:∀ m∈l::lists (rs.take (aZ rs+1)),aG ah.k m:=fun m hm=>by
  rcases List.mem_cons.1 hm with rfl | q
  ·exact hl.rise
  ·obtain ⟨r,h1,rfl⟩:=Ov q
   exact (hr r (List.mem_of_mem_take h1)).rise
 rw [(h.mg.once ha).2 q];simp only [cI];unfold nw;cases Go.Proofs.YtcboobmfnmgldaaGreat.look ah.k q l<;>rfl
end
end Go.Proofs.YtcboobmfnmgldaaGreat
