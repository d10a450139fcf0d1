/- Layer 13's statements' own: same, rising, copied, asWere. -/
import Derived.Deep.AppendLies
import Derived.Deep.RegionLaw
import Derived.Laws.StructEq
import Derived.Test.YtemijdhemdhclaaGreatNGMem
set_option linter.unusedVariables false
open Go.Proofs.Tryz
namespace Go.Proofs.YtemijdhemdhclaaGreat
open Go.RowKit
theorem rise_up {l:List Ent}:Rise Ent.k l↔Up (fun i=>(l.getD i ent0).k) l.length:=by
 constructor
 ·intro h i hi
  have:=(List.pairwise_iff_getElem.1 h) i (i+1) (by omega) hi (by omega)
  have e1:l.getD i ent0=l[i]:=by simp [List.getD,show i<l.length by omega]
  have e2:l.getD (i+1) ent0=l[i+1]:=by simp [List.getD,hi]
  show (l.getD i ent0).k<(l.getD (i+1) ent0).k;rw [e1,e2];exact this
 ·intro u
  refine List.pairwise_iff_getElem.2 fun i j hi hj hij=>?_
  have this:(l.getD i ent0).k<(l.getD j ent0).k:=u.lt hij hj;have e1:l.getD i ent0=l[i]:=by simp [List.getD,hi]
  have e2:l.getD j ent0=l[j]:=by simp [List.getD,hj]
  rw [e1,e2] at this;exact this
def e77:Ent:=⟨77,77,false⟩
theorem flat_len13:∀ l:List Ent,(l.flatMap ent3).length=l.length*3:=by
 intro l;induction l with
 | nil=>rfl
 | cons s l ih=>rw [List.flatMap_cons,List.length_append,ih,List.length_cons];show 3+l.length*3=_;omega
theorem flat_ones (l:List Ent):∀ u∈l.flatMap ent3,u.oneCell'=true:=by
 intro u hu;obtain ⟨e,_,h⟩:=List.mem_flatMap.1 hu;exact ent3_one e u h
structure EX (w:World) (ao:Option Addr) (L:List (List Ent)):Prop where
 cells:0<L.length->∃ b off,ao=some ⟨b,off,none⟩/\b<w.heap.size/\∀ i,i<L.length->∃ bo c,w.cell? ⟨b,off+i,none⟩=some (.slice bo (L.getD i []).length c)/\(L.getD i []).length+1<=c/\EL w bo (L.getD i []++[e77])
theorem info_es13:(prog.info? 59).map (fun i=>(i.zero,i.size,i.bytes))=some (some (.slice none 0 0),1,24):=by kernel_rfl
theorem orow13' {w w':World} {base e size n:Nat} {v:Value} {xs:List Value} (h:w.ownsRow base e size v n xs) (g:Gw w w'):w'.ownsRow base e size v n xs:=by
 refine ⟨h.1,?_⟩;rcases h.2 with q | ⟨b,cap,cur,rfl,hb,hh,r⟩
 ·exact .inl q
 ·exact .inr ⟨b,cap,cur,rfl,hb,(g.below.block b (Array.getElem?_eq_some_iff.1 hh).1).trans hh,r⟩
theorem new_v13' (w:World) (x:Value) (t:TypeId):∀ j u,[x][j]?=some u->(w.alloc (.cells #[x] t)).cell? ((⟨w.heap.size,0,none⟩:Addr).add j)=some u:=by
 intro j u hu;cases j with
 | zero =>
  simp only [List.getElem?_cons_zero,Option.some.injEq] at hu;subst hu;simp [Addr.add,go_sem]
 | succ j=>simp at hu
def keepP (p:Int->Bool) (e:Ent):Bool:=!e.g||p e.k
theorem Mg.oks {L:List (List Ent)} {o:List Ent} (h:Mg Ent.k L o) (ok:∀ l∈L,∀ e∈l,e.ok):∀ e∈o,e.ok:=by
 induction h using Mg.ind with
 | done _=>intro e he;cases he
 | @step ls x out e r ih =>
  obtain ⟨a,l,b,el,_,_⟩:=least_some e;intro y hy;rcases List.mem_cons.1 hy with rfl | q
  ·exact ok (y::l) (by rw [el];simp) y (List.mem_cons_self ..)
  ·refine ih (fun l' hl' z hz=>?_) y q
   obtain ⟨l0,hl0,rfl⟩:=List.mem_map.1 hl';exact ok l0 hl0 z (pass_mem hz)
theorem EV.oks {w:World} {ao:Option Addr} {L:List (List Ent)} (h:EV w ao L):∀ l∈L,∀ e∈l,e.ok:=by
 intro l hl;obtain ⟨i,hi,rfl⟩:=List.mem_iff_getElem.1 hl;obtain ⟨_,_,_,_,hc⟩:=h.cells (by omega)
 obtain ⟨bo,c,_,_,h3,_⟩:=hc i hi;have e:L.getD i []=L[i]:=by simp [List.getD,hi]
 rw [e] at h3;exact h3.all
theorem rows_le {L:List (List Ent)} {i:Nat} (hi:i<L.length):(L.getD i []).length<=sizes L:=by
 have e:L.getD i []=L[i]:=by simp [List.getD,hi]
 rw [e];have:∀ (L:List (List Ent)) (l:List Ent),l∈L->l.length<=sizes L:=by
  intro L;induction L with
  | nil=>intro l hl;cases hl
  | cons a L ih =>
   intro l hl;rw [sizes_cons];rcases List.mem_cons.1 hl with rfl | q
   ·omega
   ·have:=ih l q;omega
 exact this _ _ (List.getElem_mem hi)
end Go.Proofs.YtemijdhemdhclaaGreat
