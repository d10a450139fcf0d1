import Derived.Test.YtaemofgeciklkaaGreatEUOf2
import Derived.Test.YtaemofgeciklkaaGreatEUTk
set_option linter.unusedVariables false
namespace Go.Proofs.YtaemofgeciklkaaGreat
open Go.RowKit
def sig (r:Rn):Int×List ah×List (List Sg):=(r.eps,r.l,r.L)
def Al (rs rs':List (Option Rn)):Prop:=rs.map (Option.map sig)=rs'.map (Option.map sig)
section
variable {rs rs':List (Option Rn)}
theorem Al.len (h:Al rs rs'):rs.length=rs'.length:=by
 have:=congrArg List.length h
 simpa using this
theorem Al.get (h:Al rs rs') (i:Nat):(rs.getD i none).map sig=(rs'.getD i none).map sig:=by
 have:=congrArg (fun x=>(x[i]?).getD none) h
 simp only [List.getElem?_map] at this;rw [qag,qag];cases h1:rs[i]?<;>cases h2:rs'[i]?<;>rw [h1,h2] at this<;>simpa using this
theorem Al.no (h:Al rs rs') {i:Nat} (e:rs.getD i none=none):rs'.getD i none=none:=by
 have:=h.get i
 rw [e] at this;cases y:rs'.getD i none with
 | none=>rfl
 | some r=>rw [y] at this;cases this
theorem Al.is (h:Al rs rs') {i:Nat} {r:Rn} (e:rs.getD i none=some r):∃ r',rs'.getD i none=some r'/\r'.eps=r.eps/\r'.l=r.l/\r'.L=r.L:=by
 have:=h.get i
 rw [e] at this;cases y:rs'.getD i none with
 | none=>rw [y] at this;cases this
 | some r' =>
  rw [y] at this;simp only [Option.map_some,Option.some.injEq,sig,Prod.mk.injEq] at this;exact ⟨r',rfl,this.1.symm,this.2.1.symm,this.2.2.symm⟩
theorem Al.take (h:Al rs rs') (j:Nat):Al (rs.take j) (rs'.take j):=by unfold Al at h ⊢;rw [List.map_take,List.map_take,h]
theorem Al.drop (h:Al rs rs') (j:Nat):Al (rs.drop j) (rs'.drop j):=by unfold Al at h ⊢;rw [List.map_drop,List.map_drop,h]
theorem Vs (rs:List (Option Rn)):lists rs=(rs.map (Option.map sig)).filterMap (Option.map fun x=>x.2.1):=by unfold lists;rw [List.filterMap_map];congr 1;funext o;cases o<;>rfl
theorem Al.lists (h:Al rs rs'):Go.Proofs.YtaemofgeciklkaaGreat.lists rs=Go.Proofs.YtaemofgeciklkaaGreat.lists rs':=by rw [Vs,Vs,h]
theorem Al.tot (h:Al rs rs'):Go.Proofs.YtaemofgeciklkaaGreat.tot rs=Go.Proofs.YtaemofgeciklkaaGreat.tot rs':=by unfold Go.Proofs.YtaemofgeciklkaaGreat.tot;rw [h.lists]
theorem Al.nw (h:Al rs rs') (q:Int):Go.Proofs.YtaemofgeciklkaaGreat.nw q rs=Go.Proofs.YtaemofgeciklkaaGreat.nw q rs':=by unfold Go.Proofs.YtaemofgeciklkaaGreat.nw;rw [h.lists]
theorem Al.live (h:Al rs rs'):aM rs=aM rs':=by
 funext q
 unfold aM;rw [h.nw]
theorem Al.free (h:Al rs rs'):Go.Proofs.YtaemofgeciklkaaGreat.free rs=Go.Proofs.YtaemofgeciklkaaGreat.free rs':=by
 induction rs generalizing rs' with
 | nil =>
  cases rs' with
  | nil=>rfl
  | cons o rs'=>cases h
 | cons o rs ih =>
  cases rs' with
  | nil=>cases h
  | cons o' rs' =>
   unfold Al at h;rw [qaw,qaw] at h;injection h with h1 h2;cases o<;>cases o'<;>simp at h1
   ·rfl
   ·simp only [Go.Proofs.YtaemofgeciklkaaGreat.free];rw [ih h2]
theorem Al.freeC (h:Al rs rs'):Go.Proofs.YtaemofgeciklkaaGreat.freeC rs=Go.Proofs.YtaemofgeciklkaaGreat.freeC rs':=by unfold Go.Proofs.YtaemofgeciklkaaGreat.freeC;rw [h.free]
theorem Al.takeR (h:Al rs rs') {l o kept:List ah} (t:fV rs l o kept):fV rs' l o kept:=by
 refine ⟨?_,?_⟩
 ·have:=t.mg
  rw [h.freeC,(h.take _).lists] at this;exact this
 ·have:=t.kp
  rw [h.freeC,(h.drop _).live] at this;exact this
theorem Al.laid (h:Al rs rs') {rn wZ:Option Rn} (e:rn.map sig=wZ.map sig):Al (Go.Proofs.YtaemofgeciklkaaGreat.laid rs rn) (Go.Proofs.YtaemofgeciklkaaGreat.laid rs' wZ):=by unfold Go.Proofs.YtaemofgeciklkaaGreat.laid;rw [h.freeC];have:=h.drop (Go.Proofs.YtaemofgeciklkaaGreat.freeC rs'+1);unfold Al at this ⊢;rw [qaV,qaV,qaw,qaw,e,this]
theorem Al.top (h:Al rs rs') {t:Nat} (a:cX rs t):cX rs' t:=by
 refine ⟨by rw [<-h.len];exact a.le,fun i hi=>h.no (a.no i hi),?_⟩
 rcases a.is with x | ⟨r,x⟩
 ·exact .inl x
 ·obtain ⟨r',e,_⟩:=h.is x
  exact .inr ⟨r',e⟩
theorem Al.size (h:Al rs rs') (i:Nat):fQ (rs.getD i none)=fQ (rs'.getD i none):=by
 have:=h.get i
 cases h1:rs.getD i none<;>cases h2:rs'.getD i none<;>rw [h1,h2] at this<;>simp [sig] at this
 show List.length _=List.length _;rw [this.2.1]
end
theorem gZ.al {HR HR':bH} {w w' v v':World} {eps:Int} {kept:List ah} {rn wZ:Option Rn} (h:gZ HR w w' eps kept rn) (h':gZ HR' v v' eps kept wZ):rn.map sig=wZ.map sig:=by
 rcases h with ⟨a,b⟩ | ⟨a,r,b1,b2,b3,b4,_⟩<;>rcases h' with ⟨a',b'⟩ | ⟨a',r',c1,c2,c3,c4,_⟩
 ·rw [b,b']
 ·exact absurd a a'
 ·exact absurd a' a
 ·rw [b1,c1]
  simp only [Option.map_some,sig];rw [b2,c2,b3,c3,b4.one c4]
