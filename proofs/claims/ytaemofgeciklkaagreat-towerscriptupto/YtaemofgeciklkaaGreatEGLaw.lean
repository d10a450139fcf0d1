import Derived.Test.YtaemofgeciklkaaGreatEGMem
import Derived.Test.YtaemofgeciklkaaGreatEHStep
set_option linter.unusedVariables false
open Go.Proofs.Tryz
namespace Go.Proofs.YtaemofgeciklkaaGreat
open Go.RowKit
theorem Iu {l:List ah}:aH ah.k l↔Up (fun i=>(l.getD i aq).k) l.length:=by
 constructor
 ·intro h i hi
  have:=(List.pairwise_iff_getElem.1 h) i (i+1) ω hi ω
  have e1:l.getD i aq=l[i]:=by simp [List.getD,show i<l.length by omega]
  have e2:l.getD (i+1) aq=l[i+1]:=by simp [List.getD,hi]
  show (l.getD i aq).k<(l.getD (i+1) aq).k;rw [e1,e2];exact this
 ·intro u
  refine List.pairwise_iff_getElem.2 fun i j hi hj yK=>?_
  have this:(l.getD i aq).k<(l.getD j aq).k:=u.lt yK hj;have e1:l.getD i aq=l[i]:=by simp [List.getD,hi]
  have e2:l.getD j aq=l[j]:=by simp [List.getD,hj]
  rw [e1,e2] at this;exact this
theorem tO:∀ l:List ah,(l.flatMap aI).length=l.length*3:=by
 intro l;induction l with
 | nil=>rfl
 | cons s l ih=>rw [qaK,Ψ,ih,qak];show 3+l.length*3=_;omega
theorem yL (l:List ah):∀ u∈l.flatMap aI,u.oneCell'=true:=by intro u hu;obtain ⟨e,_,h⟩:=List.mem_flatMap.1 hu;exact kC e u h
theorem Cv {w:World} {ao:Option Addr} {l:List ah} (h:EL w ao l):∀ ad,ao=some ad->∀ j u,(l.flatMap aI)[j]?=some u->w.cell? (ad.add j)=some u:=by
 intro ad e j u hu;have hj:j<l.length*3:=by
  have:=(qaT.1 hu).1
  rwa [tO] at this
 obtain ⟨b,off,e',_,hc⟩:=h.cells ω;rw [e] at e';cases e';rw [Addr.add_lit];have hi:j/3<l.length:=ω;obtain ⟨c0,c1,c2⟩:=hc (j/3) hi;have fe:=Im l (j/3) hi (j%3) ω;rw [show j/3*3+j%3=j by omega,hu] at fe
 have hr:j%3=0\/j%3=1\/j%3=2:=ω;rcases hr with r | r | r
 ·rw [r] at fe
  rw [show off+j=off+j/3*3 by omega]
  exact c0.trans fe.symm
 ·rw [r] at fe
  rw [show off+j=off+j/3*3+1 by omega]
  exact c1.trans fe.symm
 ·rw [r] at fe
  rw [show off+j=off+j/3*3+2 by omega]
  exact c2.trans fe.symm
theorem Iv:(prog.info? 72).map (fun i=>(i.zero,i.size,i.bytes))=some (some (.slice none 0 0),1,24):=η
theorem QZ {w w':World} {base e size n:Nat} {v:Value} {xs:List Value} (h:w.ownsRow base e size v n xs) (g:Gw w w'):w'.ownsRow base e size v n xs:=by
 refine ⟨h.1,?_⟩;rcases h.2 with q | ⟨b,cap,cur,rfl,hb,hh,r⟩
 ·exact .inl q
 ·exact .inr ⟨b,cap,cur,rfl,hb,(g.below.block b (qab.1 hh).1).trans hh,r⟩
theorem Cw (w:World) (x:Value) (t:TypeId):∀ j u,[x][j]?=some u->(w.alloc (.cells #[x] t)).cell? ((⟨w.heap.size,0,none⟩:Addr).add j)=some u:=by
 intro j u hu;cases j with
 | zero =>
  simp only [List.getElem?_cons_zero,Option.some.injEq] at hu;subst hu;simp [Addr.add,go_sem]
 | succ j=>simp at hu
