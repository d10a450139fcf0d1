/- Layer 13's statements' own: same, rising, copied, asWere. -/
import Derived.Deep.AppendLies
import Derived.Deep.RegionLaw
import Derived.Laws.StructEq
import Derived.Test.YtpoohadckhphpaaGreatBGMem
set_option linter.unusedVariables false
open Go.Proofs.Tryz
namespace Go.Proofs.YtpoohadckhphpaaGreat
open Go.RowKit
theorem rise_up {l:List Ent}:Rise Ent.k l↔Up (fun i=>(l.getD i ent0).k) l.length:=by
 constructor
 ·intro h i hi
  have:=(List.pairwise_iff_getElem.1 h) i (i+1) (by omega) hi (by omega)
  have e1:l.getD i ent0=l[i]:=by simp [List.getD,show i<l.length by omega]
  have e2:l.getD (i+1) ent0=l[i+1]:=by simp [List.getD,hi]
  show (l.getD i ent0).k<(l.getD (i+1) ent0).k;rw [e1,e2];exact this
 ·intro u
  refine List.pairwise_iff_getElem.2 fun i j hi hj hij=>?_
  have this:(l.getD i ent0).k<(l.getD j ent0).k:=u.lt hij hj;have e1:l.getD i ent0=l[i]:=by simp [List.getD,hi]
  have e2:l.getD j ent0=l[j]:=by simp [List.getD,hj]
  rw [e1,e2] at this;exact this
def e77:Ent:=⟨77,77,false⟩
theorem flat_len13:∀ l:List Ent,(l.flatMap ent3).length=l.length*3:=by
 intro l;induction l with
 | nil=>rfl
 | cons s l ih=>rw [List.flatMap_cons,List.length_append,ih,List.length_cons];show 3+l.length*3=_;omega
theorem flat_ones (l:List Ent):∀ u∈l.flatMap ent3,u.oneCell'=true:=by
 intro u hu;obtain ⟨e,_,h⟩:=List.mem_flatMap.1 hu;exact ent3_one e u h
theorem el_news {w:World} {ao:Option Addr} {l:List Ent} (h:EL w ao l):∀ ad,ao=some ad->∀ j u,(l.flatMap ent3)[j]?=some u->w.cell? (ad.add j)=some u:=by
 intro ad e j u hu;have hj:j<l.length*3:=by
  have:=(List.getElem?_eq_some_iff.1 hu).1
  rwa [flat_len13] at this
 obtain ⟨b,off,e',_,hc⟩:=h.cells (by omega)
 rw [e] at e';cases e';rw [Addr.add_lit];have hi:j/3<l.length:=by omega
 obtain ⟨c0,c1,c2⟩:=hc (j/3) hi;have fe:=flat_e l (j/3) hi (j%3) (by omega)
 rw [show j/3*3+j%3=j by omega,hu] at fe
 have hr:j%3=0\/j%3=1\/j%3=2:=by omega
 rcases hr with r | r | r
 ·rw [r] at fe
  rw [show off+j=off+j/3*3 by omega]
  exact c0.trans fe.symm
 ·rw [r] at fe
  rw [show off+j=off+j/3*3+1 by omega]
  exact c1.trans fe.symm
 ·rw [r] at fe
  rw [show off+j=off+j/3*3+2 by omega]
  exact c2.trans fe.symm
structure EX (w:World) (ao:Option Addr) (L:List (List Ent)):Prop where
 cells:0<L.length->∃ b off,ao=some ⟨b,off,none⟩/\b<w.heap.size/\∀ i,i<L.length->∃ bo c,w.cell? ⟨b,off+i,none⟩=some (.slice bo (L.getD i []).length c)/\(L.getD i []).length+1<=c/\EL w bo (L.getD i []++[e77])
theorem info_es13:(prog.info? 47).map (fun i=>(i.zero,i.size,i.bytes))=some (some (.slice none 0 0),1,24):=by kernel_rfl
theorem orow13' {w w':World} {base e size n:Nat} {v:Value} {xs:List Value} (h:w.ownsRow base e size v n xs) (g:Gw w w'):w'.ownsRow base e size v n xs:=by
 refine ⟨h.1,?_⟩;rcases h.2 with q | ⟨b,cap,cur,rfl,hb,hh,r⟩
 ·exact .inl q
 ·exact .inr ⟨b,cap,cur,rfl,hb,(g.below.block b (Array.getElem?_eq_some_iff.1 hh).1).trans hh,r⟩
structure KI (w:World) (ob:Nat) (vals:List Value) (K:List (List Int)):Prop where
 len:vals.length=K.length
 row:∀ i,i<K.length->∃ rb rc,vals[i]?=some (.slice (some ⟨rb,0,none⟩) (K.getD i []).length rc)/\rb≠ob/\rb<w.heap.size/\KS w (some ⟨rb,0,none⟩) (K.getD i []).length (fun j=>(K.getD i []).getD j 0)
def keepP (p:Int->Bool) (e:Ent):Bool:=!e.g||p e.k
end Go.Proofs.YtpoohadckhphpaaGreat
