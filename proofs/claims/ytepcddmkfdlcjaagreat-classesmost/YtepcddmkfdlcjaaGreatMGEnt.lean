/- Lists of entries, and lists of them, in memory. -/
import Derived.BigQuiet
import Derived.Deep.AppendLies
import Derived.Deep.QuietTactic
import Derived.Deep.RegionLaw
import Derived.Laws.StructEq
import Derived.Test.YtepcddmkfdlcjaaGreatMPBs
import Derived.Test.YtepcddmkfdlcjaaGreatMPE3
import Derived.Test.YtepcddmkfdlcjaaGreatMGPlain
namespace Go.Proofs.YtepcddmkfdlcjaaGreat
open Go.RowKit
set_option linter.unusedVariables false
structure Ent where
 k:Int
 v:Int
 g:Bool
def ent0:Ent:=⟨0,0,false⟩
def Ent.ok (e:Ent):Prop:=(0≤e.k∧e.k<18446744073709551616)∧(0≤e.v∧e.v<18446744073709551616)
def ent3 (e:Ent):List Value:=[.int .u64 e.k, .int .u64 e.v, .bool e.g]
def EL (w:World) (ao:Option Addr) (l:List Ent):Prop:=ES w ao l.length (fun i=>(l.getD i ent0).k) (fun i=>(l.getD i ent0).v) (fun i=>(l.getD i ent0).g)
theorem EL.gw {w w':World} {ao:Option Addr} {l:List Ent} (h:EL w ao l) (g:Gw w w'):EL w' ao l:=ES.gw h g
theorem EL.ok {w:World} {ao:Option Addr} {l:List Ent} (h:EL w ao l) {i:Nat} (hi:i<l.length):(l.getD i ent0).ok:=h.bd i hi
theorem EL.all {w:World} {ao:Option Addr} {l:List Ent} (h:EL w ao l):∀ e∈l,e.ok:=by
 intro e he
 obtain ⟨i,hi,rfl⟩:=List.mem_iff_getElem.1 he
 have:=h.ok hi
 rwa [show l.getD i ent0=l[i] by simp [List.getD,hi]] at this
theorem ent3_one (e:Ent):∀ u∈ent3 e,u.oneCell'=true:=by
 intro u hu
 simp only [ent3,List.mem_cons,List.not_mem_nil,or_false] at hu
 rcases hu with rfl | rfl | rfl<;>rfl
def EO (w:World) (base:Nat) (v:Value) (l:List Ent):Prop:=w.ownsRow base 40 3 v l.length (l.flatMap ent3)
theorem eo_keep {w w':World} {base:Nat} {v:Value} {l:List Ent} (h:EO w base v l) (k:∀ q,v.ownBlock=some q→w'.heap[q]?=w.heap[q]?):EO w' base v l:=by
 refine ⟨h.1,?_⟩
 rcases h.2 with q | ⟨b,cap,cur,rfl,hb,hh,r⟩
 ·exact .inl q
 ·exact .inr ⟨b,cap,cur,rfl,hb,(k b rfl).trans hh,r⟩
theorem eo_gw {w w':World} {base:Nat} {v:Value} {l:List Ent} (h:EO w base v l) (g:Gw w w'):EO w' base v l:=eo_keep h fun q hq=>g.below.block q (World.ownsRow.lt h q hq).2
theorem eo_base {w:World} {base base':Nat} {v:Value} {l:List Ent} (h:EO w base v l) (hb:base'≤base):EO w base' v l:=by
 refine ⟨h.1,?_⟩
 rcases h.2 with q | ⟨b,cap,cur,rfl,hg,r⟩
 ·exact .inl q
 ·exact .inr ⟨b,cap,cur,rfl,Nat.le_trans hb hg,r⟩
theorem flat_e:∀ (l:List Ent) (i:Nat),i<l.length→∀ j,j<3→(l.flatMap ent3)[i*3+j]?=(ent3 (l.getD i ent0))[j]?:=by
 intro l
 induction l with
 | nil=>intro i hi;simp at hi
 | cons s l ih =>
  intro i hi j hj
  rw [List.flatMap_cons]
  cases i with
  | zero =>
   rw [Nat.zero_mul,Nat.zero_add,List.getElem?_append_left (by show j<3;exact hj)]
   rfl
  | succ i =>
   have e:(i+1)*3+j=i*3+j+3:=by omega
   rw [e,List.getElem?_append_right (by show 3≤_;omega),show i*3+j+3-(ent3 s).length=i*3+j by show i*3+j+3-3=_;omega]
   exact ih i (by simpa using hi) j hj
theorem eo_el {w:World} {base:Nat} {ao:Option Addr} {c:Nat} {l:List Ent} (h:EO w base (.slice ao l.length c) l) (ok:∀ e∈l,e.ok):EL w ao l:=by
 refine ⟨fun h0=>?_,fun i hi=>?_⟩
 ·rcases h.2 with ⟨_,z⟩ | ⟨b,cap,cur,e,hb,hh,r⟩
  ·omega
  ·injection e with e1 e2 e3
   subst e1 e3
   have c':∀ i,i<l.length→∀ j,j<3→w.cell? ⟨b,i*3+j,none⟩=(ent3 (l.getD i ent0))[j]?:=fun i hi j hj=>by
    have:=World.ownsRow.cellAt h (i*3+j) (by omega)
    rw [this]
    exact flat_e l i hi j hj
   refine ⟨b,0,rfl,(Array.getElem?_eq_some_iff.1 hh).1,fun i hi=>?_⟩
   rw [Nat.zero_add]
   exact ⟨c' i hi 0 (by decide),c' i hi 1 (by decide),c' i hi 2 (by decide)⟩
 ·have:l.getD i ent0=l[i]:=by simp [List.getD,hi]
  show (l.getD i ent0).ok
  rw [this]
  exact ok _ (List.getElem_mem hi)
theorem new_ent (w:World) (e:Ent):∀ j u,(ent3 e)[j]?=some u→(w.alloc (.cells #[.int .u64 e.k, .int .u64 e.v, .bool e.g] 40)).cell? ((⟨w.heap.size,0,none⟩:Addr).add j)=some u:=by
 intro j u hu
 match j,hu with
 | 0,hu=>simp [ent3] at hu;subst hu;simp [Addr.add,go_sem]
 | 1,hu=>simp [ent3] at hu;subst hu;simp [Addr.add,go_sem]
 | 2,hu=>simp [ent3] at hu;subst hu;simp [Addr.add,go_sem]
 | j+3,hu=>simp [ent3] at hu
theorem eo_more {w:World} {base:Nat} {v:Value} {l:List Ent} {e:Ent} (h:w.ownsRow base 40 3 v (l.length+1) (l.flatMap ent3++ent3 e)):EO w base v (l++[e]):=by
 show World.ownsRow _ _ _ _ _ _ _
 rw [List.length_append,List.flatMap_append]
 simpa using h
structure EV (w:World) (ao:Option Addr) (L:List (List Ent)):Prop where
 cells:0<L.length→∃ b off,ao=some ⟨b,off,none⟩∧b<w.heap.size∧∀ i,i<L.length→∃ bo c,w.cell? ⟨b,off+i,none⟩=some (.slice bo (L.getD i []).length c)∧(L.getD i []).length≤c∧EL w bo (L.getD i [])∧(bo=none→(L.getD i []).length=0∧c=0)
theorem EV.gw {w w':World} {ao:Option Addr} {L:List (List Ent)} (h:EV w ao L) (g:Gw w w'):EV w' ao L :=
 ⟨fun h0=>by
  obtain ⟨b,off,e,hb,hc⟩:=h.cells h0
  refine ⟨b,off,e,Nat.lt_of_lt_of_le hb g.size,fun i hi=>?_⟩
  obtain ⟨bo,c,h1,h2,h3,h4⟩:=hc i hi
  exact ⟨bo,c,(g.cell _ _ hb).trans h1,h2,h3.gw g,h4⟩⟩
end Go.Proofs.YtepcddmkfdlcjaaGreat
namespace Go.Proofs.YtepcddmkfdlcjaaGreat
open Go.RowKit
set_option linter.unusedVariables false
theorem rise_up {l:List Ent}:Rise Ent.k l↔Up (fun i=>(l.getD i ent0).k) l.length:=by
 constructor
 ·intro h i hi
  have:=(List.pairwise_iff_getElem.1 h) i (i+1) (by omega) hi (by omega)
  have e1:l.getD i ent0=l[i]:=by simp [List.getD,show i<l.length by omega]
  have e2:l.getD (i+1) ent0=l[i+1]:=by simp [List.getD,hi]
  show (l.getD i ent0).k<(l.getD (i+1) ent0).k
  rw [e1,e2]
  exact this
 ·intro u
  refine List.pairwise_iff_getElem.2 fun i j hi hj hij=>?_
  have this:(l.getD i ent0).k<(l.getD j ent0).k:=u.lt hij hj
  have e1:l.getD i ent0=l[i]:=by simp [List.getD,hi]
  have e2:l.getD j ent0=l[j]:=by simp [List.getD,hj]
  rw [e1,e2] at this
  exact this
end Go.Proofs.YtepcddmkfdlcjaaGreat
