/- Classes that are alike: the same eps, entries and levels, class by class, wherever they lie. No Go in it. -/
import Derived.Test.YtpoohadckhphpaaGreatBUOf2
import Derived.Test.YtpoohadckhphpaaGreatBPEl
set_option linter.unusedVariables false
namespace Go.Proofs.YtpoohadckhphpaaGreat
open Go.RowKit
def sig (r:Rn):Int×List Ent×List (List Sg):=(r.eps,r.l,r.L)
def Al (rs rs':List (Option Rn)):Prop:=rs.map (Option.map sig)=rs'.map (Option.map sig)
section
variable {rs rs':List (Option Rn)}
theorem Al.len (h:Al rs rs'):rs.length=rs'.length:=by
 have:=congrArg List.length h
 simpa using this
theorem Al.get (h:Al rs rs') (i:Nat):(rs.getD i none).map sig=(rs'.getD i none).map sig:=by
 have:=congrArg (fun x=>(x[i]?).getD none) h
 simp only [List.getElem?_map] at this;rw [List.getD_eq_getElem?_getD,List.getD_eq_getElem?_getD];cases h1:rs[i]?<;>cases h2:rs'[i]?<;>rw [h1,h2] at this<;>simpa using this
theorem Al.is (h:Al rs rs') {i:Nat} {r:Rn} (e:rs.getD i none=some r):∃ r',rs'.getD i none=some r'/\r'.eps=r.eps/\r'.l=r.l/\r'.L=r.L:=by
 have:=h.get i
 rw [e] at this;cases y:rs'.getD i none with
 | none=>rw [y] at this;cases this
 | some r' =>
  rw [y] at this;simp only [Option.map_some,Option.some.injEq,sig,Prod.mk.injEq] at this;exact ⟨r',rfl,this.1.symm,this.2.1.symm,this.2.2.symm⟩
theorem Al.symm (h:Al rs rs'):Al rs' rs:=Eq.symm h
theorem Al.take (h:Al rs rs') (j:Nat):Al (rs.take j) (rs'.take j):=by
 unfold Al at h ⊢;rw [List.map_take,List.map_take,h]
theorem Al.drop (h:Al rs rs') (j:Nat):Al (rs.drop j) (rs'.drop j):=by
 unfold Al at h ⊢;rw [List.map_drop,List.map_drop,h]
theorem lists_sig (rs:List (Option Rn)):lists rs=(rs.map (Option.map sig)).filterMap (Option.map fun x=>x.2.1):=by
 unfold lists;rw [List.filterMap_map];congr 1;funext o;cases o<;>rfl
theorem Al.lists (h:Al rs rs'):Go.Proofs.YtpoohadckhphpaaGreat.lists rs=Go.Proofs.YtpoohadckhphpaaGreat.lists rs':=by rw [lists_sig,lists_sig,h]
theorem Al.tot (h:Al rs rs'):Go.Proofs.YtpoohadckhphpaaGreat.tot rs=Go.Proofs.YtpoohadckhphpaaGreat.tot rs':=by unfold Go.Proofs.YtpoohadckhphpaaGreat.tot;rw [h.lists]
theorem Al.nw (h:Al rs rs') (q:Int):Go.Proofs.YtpoohadckhphpaaGreat.nw q rs=Go.Proofs.YtpoohadckhphpaaGreat.nw q rs':=by unfold Go.Proofs.YtpoohadckhphpaaGreat.nw;rw [h.lists]
theorem Al.live (h:Al rs rs'):liveQ rs=liveQ rs':=by
 funext q
 unfold liveQ;rw [h.nw]
theorem Al.fit (h:Al rs rs') (eps buf:Int) (j:Nat):fitsB eps buf j (rs.drop (j+1)) (rs.getD j none)=fitsB eps buf j (rs'.drop (j+1)) (rs'.getD j none):=by
 have:=h.get j
 have lv:=(h.drop (j+1)).live;cases h1:rs.getD j none<;>cases h2:rs'.getD j none<;>rw [h1,h2] at this<;>simp [sig] at this
 ·rfl
 ·simp only [fitsB,this.1,this.2.1,lv]
theorem Al.up (h:Al rs rs'):Al (upR rs) (upR rs'):=by
 unfold upR;have:=h.take 40;unfold Al at this ⊢;rw [List.map_append,List.map_append,this,h.len]
theorem Al.far (h:Al rs rs'):(∃ r,some r∈rs.drop 40)->∃ r,some r∈rs'.drop 40:=fun ⟨r,hr⟩=>by
 obtain ⟨i,hi,e⟩:=List.mem_iff_getElem.1 hr;obtain ⟨r',e',_⟩:=(h.drop 40).is (i:=i) (r:=r) (by rw [getD_rs hi,e])
 exact ⟨r',mem_rs (by rw [<-(h.drop 40).len];exact hi) e'⟩
theorem Al.of (h:Al rs rs') {eps buf E:Int} (o:OfR15 eps buf rs E):OfR15 eps buf rs' E:=by
 have fa:fitAll eps buf (upR rs) 40↔fitAll eps buf (upR rs') 40:=⟨fun f j hj=>by rw [<-h.up.fit];exact f j hj,fun f j hj=>by rw [h.up.fit];exact f j hj⟩
 rcases o with ⟨e,a⟩ | ⟨e,⟨a,b⟩,c⟩ | ⟨e,⟨a,b⟩,c⟩
 ·refine .inl ⟨e,?_⟩
  rcases a with a | a
  ·exact .inl a
  ·exact .inr (h.far a)
 ·exact .inr (.inl ⟨e,⟨a,fun x=>b (h.symm.far x)⟩,fun x=>c (fa.2 x)⟩)
 ·exact .inr (.inr ⟨e,⟨a,fun x=>b (h.symm.far x)⟩,fa.1 c⟩)
end
end Go.Proofs.YtpoohadckhphpaaGreat
