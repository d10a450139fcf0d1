import Derived.Test.YtaemofgeciklkaaGreatEVBuild
import Derived.Test.YtaemofgeciklkaaGreatEGC
set_option linter.unusedVariables false
namespace Go.Proofs.YtaemofgeciklkaaGreat
open Go.RowKit
structure Rn where
 p:Nat
 S:Nat->Prop
 eps:Int
 l:List ah
 L:List (List Sg)
def ek (l:List ah) (i:Nat):Int:=(l.getD i aq).k
def ev (l:List ah) (i:Nat):Int:=(l.getD i aq).v
def eg (l:List ah) (i:Nat):Bool:=(l.getD i aq).g
def aR (l:List ah):Prop:=dS (ek l) (ev l) (eg l) l.length 0
variable {l:List ah}
theorem ji {i:Nat} (hi:i<l.length):l.getD i aq=l[i]:=by simp [List.getD,hi]
theorem aR.iff:aR l↔aH ah.k l/\∀ e∈l,¬ (e.g=true/\e.v≠0):=by
 unfold aR;rw [show dS (ek l) (ev l) (eg l) l.length 0↔_ from ⟨fun h=>(dS.zero h).1 rfl,fun h=>dS.ok h.1 h.2⟩]
 refine and_congr Iu.symm ⟨fun h e he=>?_,fun h j hj=>?_⟩
 ·obtain ⟨i,hi,rfl⟩:=List.mem_iff_getElem.1 he
  have:=h i hi
  unfold eg ev at this;rwa [ji hi] at this
 ·unfold eg ev
  rw [ji hj];exact h _ (qaz hj)
theorem aR.rise (h:aR l):aH ah.k l:=(aR.iff.1 h).1
theorem aR.up (h:aR l):Up (ek l) l.length:=Iu.1 h.rise
theorem Cy (h:aH ah.k l) {e:ah} (he:e∈l):look ah.k e.k l=some e:=by
 induction l with
 | nil=>cases he
 | cons z o ih =>
  obtain ⟨z1,z2⟩:=List.pairwise_cons.1 h;rw [de];rcases qaf.1 he with rfl | q
  ·rw [Ym rfl]
  ·have:=z1 e q
   rw [Yl ω];exact ih z2 q
theorem vR {q:Int} {e:ah} (h:look ah.k q l=some e):e∈l/\e.k=q:=⟨List.mem_of_find?_eq_some h,Ch h⟩
def dE (o:Option ah):Value×Bool:=match o with
 | some e=>(oB e.k e.v e.g,true)
 | none=>(oB 0 0 false,false)
theorem Rh (h:aH ah.k l) (q:Int):jZ (ek l) (ev l) (eg l) l.length q=dE (look ah.k q l):=by
 have u:Up (ek l) l.length:=Iu.1 h;unfold jZ;cases hl:look ah.k q l with
 | some e =>
  obtain ⟨he,hk⟩:=vR hl;obtain ⟨i,hi,ei⟩:=List.mem_iff_getElem.1 he;have k1:ek l i=q:=by unfold ek;rw [ji hi,ei,hk]
  have c:aB (ek l) q l.length=i:=by rw [<-k1];exact ab4 u hi
  rw [c,Ym ⟨hi,k1⟩];unfold ek ev eg dE;rw [ji hi,ei]
 | none =>
  rw [Yl]
  ·rfl
  ·rintro ⟨a,b⟩
   have hm:=qaz a;have:=Cy h hm;rw [show (l[aB (ek l) q l.length]).k=q from by rw [<-ji a];exact b] at this
   rw [this] at hl;cases hl
def ptr (o:Option Rn):Value:=match o with
 | some r=>IS (r.p)
 | none=>.pointer none
def lists (rs:List (Option Rn)):List (List ah):=rs.filterMap (Option.map Rn.l)
theorem Ri (r:Rn) (rs:List (Option Rn)):lists (some r::rs)=r.l::lists rs:=rfl
theorem vS (a b:List (Option Rn)):lists (a++b)=lists a++lists b:=List.filterMap_append
def tot (rs:List (Option Rn)):Nat:=aN (lists rs)
theorem Cz (rs:List (Option Rn)):tot (none::rs)=tot rs:=rfl
theorem vT (r:Rn) (rs:List (Option Rn)):tot (some r::rs)=r.l.length+tot rs:=by unfold tot;rw [Ri,jb]
theorem vU (a b:List (Option Rn)):tot (a++b)=tot a+tot b:=by unfold tot;rw [vS,rC]
theorem pU (rs:List (Option Rn)) (j:Nat):tot (rs.take j)+tot (rs.drop j)=tot rs:=by rw [<-vU,List.take_append_drop]
variable {rs:List (Option Rn)}
theorem Rj (h:l∈lists rs):∃ r,some r∈rs/\r.l=l:=by
 obtain ⟨o,ho,e⟩:=List.mem_filterMap.1 h;cases o with
 | none=>cases e
 | some r=>exact ⟨r,ho,Option.some.inj e⟩
def nw (q:Int) (rs:List (Option Rn)):Option ah:=df ah.k q (lists rs)
theorem yO (q:Int) (rs:List (Option Rn)):nw q (none::rs)=nw q rs:=rfl
theorem rI (q:Int) (r:Rn) (rs:List (Option Rn)):nw q (some r::rs)=(look ah.k q r.l).or (nw q rs):=by unfold nw;rw [Ri];simp only [df];cases look ah.k q r.l<;>rfl
theorem ac6 (q:Int) (a b:List (List ah)):df ah.k q (a++b)=(df ah.k q a).or (df ah.k q b):=by
 induction a with
 | nil=>rfl
 | cons l a ih =>
  simp only [List.cons_append,df];cases look ah.k q l with
  | some e=>rfl
  | none=>exact ih
theorem Rk (q:Int) (a b:List (Option Rn)):nw q (a++b)=(nw q a).or (nw q b):=by unfold nw;rw [vS,ac6]
theorem yP (q:Int) (n:Nat) (rs:List (Option Rn)):nw q (List.replicate n none++rs)=nw q rs:=by
 induction n with
 | zero=>rfl
 | succ n ih=>rw [List.replicate_succ,List.cons_append,yO];exact ih
def iK (o:Option ah):Bool:=match o with
 | some e=>!e.g
 | none=>false
def aM (rs:List (Option Rn)) (q:Int):Bool:=iK (nw q rs)
def free:List (Option Rn)->Nat
 | []=>0
 | none::_=>0
 | some _::rs=>free rs+1
theorem IB {i:Nat} (h:∀ j,j<i->∃ r,rs[j]?=some (some r)) (hn:rs[i]?=some none\/rs.length=i):free rs=i:=by
 induction rs generalizing i with
 | nil =>
  rcases hn with q | q
  ·simp at q
  ·simpa [free] using q
 | cons o rs ih =>
  cases i with
  | zero =>
   rcases hn with q | q
   ·simp at q;subst q;rfl
   ·simp at q
  | succ i =>
   obtain ⟨r,hr⟩:=h 0 ω;simp at hr;subst hr;simp only [free];rw [ih (i:=i) (fun j hj=>by simpa using h (j+1) ω) (by simpa using hn)]
theorem Rl (h:free rs<rs.length):rs[free rs]?=some none:=by
 induction rs with
 | nil=>simp at h
 | cons o rs ih =>
  cases o with
  | none=>rfl
  | some x=>simp only [free,qak] at h ⊢;simpa using ih ω
def freeC (rs:List (Option Rn)):Nat:=min (free rs) 39
structure fV (rs:List (Option Rn)) (l:List ah) (o kept:List ah):Prop where
 mg:Mg ah.k (l::lists (rs.take (freeC rs+1))) o
 kp:kept=o.filter (aW (aM (rs.drop (freeC rs+1))))
theorem fV.one {o o' k k':List ah} (h:fV rs l o k) (h':fV rs l o' k'):k=k':=by rw [h.kp,h'.kp,h.mg.one h'.mg]
def took (rs:List (Option Rn)) (l:List ah):Nat:=l.length+tot (rs.take (freeC rs+1))
def laid (rs:List (Option Rn)) (r:Option Rn):List (Option Rn):=List.replicate (freeC rs) none++r::rs.drop (freeC rs+1)
theorem ac7 (h:rs.length=40) (r:Option Rn):(laid rs r).length=40:=by unfold laid freeC;simp;omega
section
variable {rs:List (Option Rn)} {l o kept:List ah}
theorem fV.facts (h:fV rs l o kept) (hl:aR l) (hr:∀ r,some r∈rs->aR r.l):aR o/\aR kept:=by
 have ha:∀ m∈l::lists (rs.take (freeC rs+1)),aR m:=fun m hm=>by
  rcases qaf.1 hm with rfl | q
  ·exact hl
  ·obtain ⟨r,h1,rfl⟩:=Rj q
   exact hr r (List.mem_of_mem_take h1)
 obtain ⟨r1,r2⟩:=h.mg.once (fun m hm=>(ha m hm).rise)
 have ho:aR o:=aR.iff.2 ⟨r1,fun e he=>by
  have q:=Cy r1 he;rw [r2] at q;have:∀ ls:List (List ah),(∀ m∈ls,aR m)->df ah.k e.k ls=some e->¬ (e.g=true/\e.v≠0):=by
   intro ls;induction ls with
   | nil=>intro _ h;cases h
   | cons m ls ih =>
    intro hm hf;simp only [df] at hf;cases hk:look ah.k e.k m with
    | some x =>
     rw [hk] at hf;cases hf;exact (aR.iff.1 (hm m (qat ..))).2 e (vR hk).1
    | none =>
     rw [hk] at hf;exact ih (fun m h=>hm m (qay _ h)) hf
  exact this _ ha q⟩
 refine ⟨ho,?_⟩;rw [h.kp];exact aR.iff.2 ⟨ho.rise.filter _,fun e he=>(aR.iff.1 ho).2 e (List.mem_filter.1 he).1⟩
theorem fV.few (h:fV rs l o kept):kept.length<=took rs l/\o.length<=took rs l:=by
 have a:=h.mg.few;rw [jb] at a;have b:kept.length<=o.length:=by rw [h.kp];exact List.length_filter_le ..
 unfold took tot;omega
theorem fV.look (h:fV rs l o kept) (hl:aR l) (hr:∀ r,some r∈rs->aR r.l) (q:Int):Go.Proofs.YtaemofgeciklkaaGreat.look ah.k q o=(Go.Proofs.YtaemofgeciklkaaGreat.look ah.k q l).or (nw q (rs.take (freeC rs+1))):=by
 have ha:∀ m∈l::lists (rs.take (freeC rs+1)),aH ah.k m:=fun m hm=>by
  rcases qaf.1 hm with rfl | q
  ·exact hl.rise
  ·obtain ⟨r,h1,rfl⟩:=Rj q
   exact (hr r (List.mem_of_mem_take h1)).rise
 rw [(h.mg.once ha).2 q];simp only [df];unfold nw;cases Go.Proofs.YtaemofgeciklkaaGreat.look ah.k q l<;>rfl
end
