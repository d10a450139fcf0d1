/- Lists of entries, and lists of them, in memory. -/
import Derived.BigQuiet
import Derived.Deep.AppendLies
import Derived.Deep.QuietTactic
import Derived.Deep.RegionLaw
import Derived.Laws.StructEq
import Derived.Lib.SmallJoins
import Derived.OpenShut
import Derived.Test.YtjhaiiegdnamcabGreatRows
import Derived.Test.YtjhaiiegdnamcabGreatHPBs
import Derived.Test.YtjhaiiegdnamcabGreatHPE3
import Derived.Test.YtjhaiiegdnamcabGreatHGPlain
namespace Go.Proofs.YtjhaiiegdnamcabGreat
open Go.RowKit
set_option linter.unusedVariables false
structure Ent where
 k:Int
 v:Int
 g:Bool
def ent0:Ent:=⟨0,0,false⟩
def Ent.ok (e:Ent):Prop:=(0≤e.k∧e.k<18446744073709551616)∧(0≤e.v∧e.v<18446744073709551616)
def ent3 (e:Ent):List Value:=[.int .u64 e.k, .int .u64 e.v, .bool e.g]
def EL (w:World) (ao:Option Addr) (l:List Ent):Prop:=ES w ao l.length (fun i=>(l.getD i ent0).k) (fun i=>(l.getD i ent0).v) (fun i=>(l.getD i ent0).g)
theorem EL.gw {w w':World} {ao:Option Addr} {l:List Ent} (h:EL w ao l) (g:Gw w w'):EL w' ao l:=ES.gw h g
theorem EL.ok {w:World} {ao:Option Addr} {l:List Ent} (h:EL w ao l) {i:Nat} (hi:i<l.length):(l.getD i ent0).ok:=h.bd i hi
theorem EL.all {w:World} {ao:Option Addr} {l:List Ent} (h:EL w ao l):∀ e∈l,e.ok:=by
 intro e he
 obtain ⟨i,hi,rfl⟩:=List.mem_iff_getElem.1 he
 have:=h.ok hi
 rwa [show l.getD i ent0=l[i] by simp [List.getD,hi]] at this
theorem ent3_one (e:Ent):∀ u∈ent3 e,u.oneCell'=true:=by
 intro u hu
 simp only [ent3,List.mem_cons,List.not_mem_nil,or_false] at hu
 rcases hu with rfl | rfl | rfl<;>rfl
def EO (w:World) (base:Nat) (v:Value) (l:List Ent):Prop:=w.ownsRow base 65 3 v l.length (l.flatMap ent3)
theorem eo_keep {w w':World} {base:Nat} {v:Value} {l:List Ent} (h:EO w base v l) (k:∀ q,v.ownBlock=some q→w'.heap[q]?=w.heap[q]?):EO w' base v l:=by
 refine ⟨h.1,?_⟩
 rcases h.2 with q | ⟨b,cap,cur,rfl,hb,hh,r⟩
 ·exact .inl q
 ·exact .inr ⟨b,cap,cur,rfl,hb,(k b rfl).trans hh,r⟩
theorem eo_gw {w w':World} {base:Nat} {v:Value} {l:List Ent} (h:EO w base v l) (g:Gw w w'):EO w' base v l:=eo_keep h fun q hq=>g.below.block q (World.ownsRow.lt h q hq).2
theorem eo_base {w:World} {base base':Nat} {v:Value} {l:List Ent} (h:EO w base v l) (hb:base'≤base):EO w base' v l:=by
 refine ⟨h.1,?_⟩
 rcases h.2 with q | ⟨b,cap,cur,rfl,hg,r⟩
 ·exact .inl q
 ·exact .inr ⟨b,cap,cur,rfl,Nat.le_trans hb hg,r⟩
theorem flat_e:∀ (l:List Ent) (i:Nat),i<l.length→∀ j,j<3→(l.flatMap ent3)[i*3+j]?=(ent3 (l.getD i ent0))[j]?:=by
 intro l
 induction l with
 | nil=>intro i hi;simp at hi
 | cons s l ih =>
  intro i hi j hj
  rw [List.flatMap_cons]
  cases i with
  | zero =>
   rw [Nat.zero_mul,Nat.zero_add,List.getElem?_append_left (by show j<3;exact hj)]
   rfl
  | succ i =>
   have e:(i+1)*3+j=i*3+j+3:=by omega
   rw [e,List.getElem?_append_right (by show 3≤_;omega),show i*3+j+3-(ent3 s).length=i*3+j by show i*3+j+3-3=_;omega]
   exact ih i (by simpa using hi) j hj
theorem eo_el {w:World} {base:Nat} {ao:Option Addr} {c:Nat} {l:List Ent} (h:EO w base (.slice ao l.length c) l) (ok:∀ e∈l,e.ok):EL w ao l:=by
 refine ⟨fun h0=>?_,fun i hi=>?_⟩
 ·rcases h.2 with ⟨_,z⟩ | ⟨b,cap,cur,e,hb,hh,r⟩
  ·omega
  ·injection e with e1 e2 e3
   subst e1 e3
   have c':∀ i,i<l.length→∀ j,j<3→w.cell? ⟨b,i*3+j,none⟩=(ent3 (l.getD i ent0))[j]?:=fun i hi j hj=>by
    have:=World.ownsRow.cellAt h (i*3+j) (by omega)
    rw [this]
    exact flat_e l i hi j hj
   refine ⟨b,0,rfl,(Array.getElem?_eq_some_iff.1 hh).1,fun i hi=>?_⟩
   rw [Nat.zero_add]
   exact ⟨c' i hi 0 (by decide),c' i hi 1 (by decide),c' i hi 2 (by decide)⟩
 ·have:l.getD i ent0=l[i]:=by simp [List.getD,hi]
  show (l.getD i ent0).ok
  rw [this]
  exact ok _ (List.getElem_mem hi)
theorem new_ent (w:World) (e:Ent):∀ j u,(ent3 e)[j]?=some u→(w.alloc (.cells #[.int .u64 e.k, .int .u64 e.v, .bool e.g] 65)).cell? ((⟨w.heap.size,0,none⟩:Addr).add j)=some u:=by
 intro j u hu
 match j,hu with
 | 0,hu=>simp [ent3] at hu;subst hu;simp [Addr.add,go_sem]
 | 1,hu=>simp [ent3] at hu;subst hu;simp [Addr.add,go_sem]
 | 2,hu=>simp [ent3] at hu;subst hu;simp [Addr.add,go_sem]
 | j+3,hu=>simp [ent3] at hu
theorem eo_more {w:World} {base:Nat} {v:Value} {l:List Ent} {e:Ent} (h:w.ownsRow base 65 3 v (l.length+1) (l.flatMap ent3++ent3 e)):EO w base v (l++[e]):=by
 show World.ownsRow _ _ _ _ _ _ _
 rw [List.length_append,List.flatMap_append]
 simpa using h
structure EV (w:World) (ao:Option Addr) (L:List (List Ent)):Prop where
 cells:0<L.length→∃ b off,ao=some ⟨b,off,none⟩∧b<w.heap.size∧∀ i,i<L.length→∃ bo c,w.cell? ⟨b,off+i,none⟩=some (.slice bo (L.getD i []).length c)∧(L.getD i []).length≤c∧EL w bo (L.getD i [])∧(bo=none→(L.getD i []).length=0∧c=0)
theorem EV.gw {w w':World} {ao:Option Addr} {L:List (List Ent)} (h:EV w ao L) (g:Gw w w'):EV w' ao L :=
 ⟨fun h0=>by
  obtain ⟨b,off,e,hb,hc⟩:=h.cells h0
  refine ⟨b,off,e,Nat.lt_of_lt_of_le hb g.size,fun i hi=>?_⟩
  obtain ⟨bo,c,h1,h2,h3,h4⟩:=hc i hi
  exact ⟨bo,c,(g.cell _ _ hb).trans h1,h2,h3.gw g,h4⟩⟩
end Go.Proofs.YtjhaiiegdnamcabGreat
namespace Go.Proofs.YtjhaiiegdnamcabGreat
open Go.RowKit
set_option linter.unusedVariables false
theorem rise_up {l:List Ent}:Rise Ent.k l↔Up (fun i=>(l.getD i ent0).k) l.length:=by
 constructor
 ·intro h i hi
  have:=(List.pairwise_iff_getElem.1 h) i (i+1) (by omega) hi (by omega)
  have e1:l.getD i ent0=l[i]:=by simp [List.getD,show i<l.length by omega]
  have e2:l.getD (i+1) ent0=l[i+1]:=by simp [List.getD,hi]
  show (l.getD i ent0).k<(l.getD (i+1) ent0).k
  rw [e1,e2]
  exact this
 ·intro u
  refine List.pairwise_iff_getElem.2 fun i j hi hj hij=>?_
  have this:(l.getD i ent0).k<(l.getD j ent0).k:=u.lt hij hj
  have e1:l.getD i ent0=l[i]:=by simp [List.getD,hi]
  have e2:l.getD j ent0=l[j]:=by simp [List.getD,hj]
  rw [e1,e2] at this
  exact this
end Go.Proofs.YtjhaiiegdnamcabGreat
namespace Go.Proofs.YtjhaiiegdnamcabGreat
open Go.ChangeShapes Go.WideShapes Go.ChangeAt Go.RowKit Go.Joins
set_option linter.unusedVariables false
theorem heft_one {H:Type} (d:DataW H):1≤Rows.uptoBulk d:=by
 cases d with
 | lit l=>cases l<;>simp [Rows.uptoBulk]
 | nil=>simp [Rows.uptoBulk]
 | ptr d=>simp [Rows.uptoBulk]
 | slice elems spare=>simp [Rows.uptoBulk]
 | agg parts=>simp [Rows.uptoBulk]
 | iface t d=>simp [Rows.uptoBulk]
 | map entries=>simp [Rows.uptoBulk]
 | held h=>simp [Rows.uptoBulk]
theorem heft_many {H:Type} (l:List (DataW H)):l.length≤Rows.uptoBulkAll l:=by
 induction l with
 | nil=>simp [Rows.uptoBulkAll]
 | cons x r ih=>have:=heft_one x;simp only [Rows.uptoBulkAll,List.length_cons];omega
theorem cells_u13:Tryz.prog.cellsOf 32=1:=by kernel_rfl
theorem u64_in13 {x:Int} (h:(Lit.int .u64 x).wf=true):0≤x∧x<18446744073709551616:=by
 simp [Lit.wf,IntKind.min,IntKind.max,IntKind.signed,IntKind.bits] at h
 exact ⟨by omega,by omega⟩
theorem spot_none13 {w:World} {a:Addr} {v:Value} (h:w.cell? a=some v):a=⟨a.block,a.off,none⟩:=by
 obtain ⟨b,o,s⟩:=a
 cases s with
 | none=>rfl
 | some s=>unfold World.cell? at h;split at h<;>simp at h
end Go.Proofs.YtjhaiiegdnamcabGreat
namespace Go.Proofs.YtjhaiiegdnamcabGreat
open Go.RowKit
set_option linter.unusedVariables false
def e77:Ent:=⟨77,77,false⟩
theorem flat_len13:∀ l:List Ent,(l.flatMap ent3).length=l.length*3:=by
 intro l
 induction l with
 | nil=>rfl
 | cons s l ih=>rw [List.flatMap_cons,List.length_append,ih,List.length_cons];show 3+l.length*3=_;omega
theorem flat_ones (l:List Ent):∀ u∈l.flatMap ent3,u.oneCell'=true:=by
 intro u hu
 obtain ⟨e,_,h⟩:=List.mem_flatMap.1 hu
 exact ent3_one e u h
theorem getD_app {l:List Ent} {e:Ent} {i:Nat} (hi:i<l.length):(l++[e]).getD i ent0=l.getD i ent0:=by
 rw [List.getD_eq_getElem?_getD,List.getElem?_append_left hi,←List.getD_eq_getElem?_getD]
theorem EL.front {w:World} {ao:Option Addr} {l:List Ent} {e:Ent} (h:EL w ao (l++[e])):EL w ao l:=by
 have hl:(l++[e]).length=l.length+1:=by simp
 refine ⟨fun h0=>?_,fun i hi=>?_⟩
 ·obtain ⟨b,off,q,hb,hc⟩:=h.cells (by omega)
  refine ⟨b,off,q,hb,fun i hi=>?_⟩
  have:=hc i (by omega)
  rw [getD_app hi] at this
  exact this
 ·have:=h.bd i (by omega)
  rw [getD_app hi] at this
  exact this
theorem EL.keep {w w':World} {rb:Nat} {l:List Ent} (h:EL w (some ⟨rb,0,none⟩) l) (hb:rb<w'.heap.size) (k:w'.heap[rb]?=w.heap[rb]?):EL w' (some ⟨rb,0,none⟩) l :=
 ⟨fun h0=>by
  obtain ⟨b,off,e,_,hc⟩:=h.cells h0
  cases e
  refine ⟨rb,0,rfl,hb,fun i hi=>?_⟩
  have:=hc i hi
  simp only [World.cell?] at this ⊢
  rw [k]
  exact this,h.bd⟩
structure CI13 (w:World) (ob:Nat) (vals:List Value) (L:List (List Ent)):Prop where
 len:vals.length=L.length
 row:∀ i,i<L.length→∃ rb rc,vals[i]?=some (.slice (some ⟨rb,0,none⟩) (L.getD i []).length rc)∧(L.getD i []).length+1≤rc∧rb≠ob∧rb<w.heap.size∧EL w (some ⟨rb,0,none⟩) (L.getD i []++[e77])
theorem CI13.gw {w w':World} {ob:Nat} {vals:List Value} {L:List (List Ent)} (h:CI13 w ob vals L) (g:Gw w w'):CI13 w' ob vals L :=
 ⟨h.len,fun i hi=>by
  obtain ⟨rb,rc,h1,h0,h2,h3,h4⟩:=h.row i hi
  exact ⟨rb,rc,h1,h0,h2,Nat.lt_of_lt_of_le h3 g.size,h4.gw g⟩⟩
theorem CI13.more {w w8:World} {o:Obj} {ob ob':Nat} {vals:List Value} {L:List (List Ent)} {l:List Ent} {rb rc:Nat} (h:CI13 w ob vals L) (r2:(w.alloc o).grownBy w8 (some ob)) (o8:ob'=ob∨w.heap.size≤ob') (rn:rb≠ob) (rl:rb<w.heap.size) (hc:l.length+1≤rc) (ks:EL w (some ⟨rb,0,none⟩) (l++[e77])):CI13 w8 ob' (vals++[.slice (some ⟨rb,0,none⟩) l.length rc]) (L++[l]):=by
 have kp:∀ q,q<w.heap.size→q≠ob→w8.heap[q]?=w.heap[q]?:=fun q hq hn=>(r2.block q (by simp;omega) (fun e=>hn (by cases e;rfl))).trans (heap_alloc_old w _ hq)
 have lt8:∀ q,q<w.heap.size→q≠ob→q<w8.heap.size:=fun q hq hn=>by
  have e:=kp q hq hn
  rw [Array.getElem?_eq_getElem hq] at e
  exact (Array.getElem?_eq_some_iff.1 e).1
 refine ⟨by rw [List.length_append,List.length_append,h.len];rfl,fun i hi=>?_⟩
 by_cases e:i<L.length
 ·obtain ⟨b,c,h1,h0,h2,h3,h4⟩:=h.row i e
  have eg:(L++[l]).getD i []=L.getD i []:=by
   rw [List.getD_eq_getElem?_getD,List.getElem?_append_left e,←List.getD_eq_getElem?_getD]
  rw [eg]
  refine ⟨b,c,by rw [List.getElem?_append_left (by rw [h.len];exact e)];exact h1,h0,?_,lt8 b h3 h2,h4.keep (lt8 b h3 h2) (kp b h3 h2)⟩
  rcases o8 with q | q
  ·rw [q];exact h2
  ·omega
 ·have ei:i=L.length:=by
   rw [List.length_append] at hi
   simp at hi
   omega
  subst ei
  have eg:(L++[l]).getD L.length []=l:=by simp [List.getD]
  rw [eg]
  refine ⟨rb,rc,by rw [←h.len];simp,hc,?_,lt8 rb rl rn,ks.keep (lt8 rb rl rn) (kp rb rl rn)⟩
  rcases o8 with q | q
  ·rw [q];exact rn
  ·omega
structure EX (w:World) (ao:Option Addr) (L:List (List Ent)):Prop where
 cells:0<L.length→∃ b off,ao=some ⟨b,off,none⟩∧b<w.heap.size∧∀ i,i<L.length→∃ bo c,w.cell? ⟨b,off+i,none⟩=some (.slice bo (L.getD i []).length c)∧(L.getD i []).length+1≤c∧EL w bo (L.getD i []++[e77])
theorem EX.gw {w w':World} {ao:Option Addr} {L:List (List Ent)} (h:EX w ao L) (g:Gw w w'):EX w' ao L :=
 ⟨fun h0=>by
  obtain ⟨b,off,e,hb,hc⟩:=h.cells h0
  refine ⟨b,off,e,Nat.lt_of_lt_of_le hb g.size,fun i hi=>?_⟩
  obtain ⟨bo,c,h1,h2,h3⟩:=hc i hi
  exact ⟨bo,c,(g.cell _ _ hb).trans h1,h2,h3.gw g⟩⟩
theorem EX.ev {w:World} {ao:Option Addr} {L:List (List Ent)} (h:EX w ao L):EV w ao L :=
 ⟨fun h0=>by
  obtain ⟨b,off,e,hb,hc⟩:=h.cells h0
  refine ⟨b,off,e,hb,fun i hi=>?_⟩
  obtain ⟨bo,c,h1,h2,h3⟩:=hc i hi
  refine ⟨bo,c,h1,by omega,h3.front,fun q=>?_⟩
  obtain ⟨_,_,q',_⟩:=h3.cells (by simp)
  rw [q] at q'
  cases q'⟩
theorem CI13.ex {w:World} {base ob n oc:Nat} {vals:List Value} {L:List (List Ent)} (h:CI13 w ob vals L) (o:w.ownsRow base 36 1 (.slice (some ⟨ob,0,none⟩) n oc) n vals) (hn:L.length=n):EX w (some ⟨ob,0,none⟩) L :=
 ⟨fun h0=>⟨ob,0,rfl,(o.lt ob rfl).2,fun i hi=>by
  obtain ⟨rb,rc,h1,h0,_,_,h4⟩:=h.row i hi
  refine ⟨some ⟨rb,0,none⟩,rc,?_,h0,h4⟩
  rw [Nat.zero_add,World.ownsRow.cellAt o i (by omega)]
  exact h1⟩⟩
theorem info_es13:(Tryz.prog.info? 36).map (fun i=>(i.zero,i.size,i.bytes))=some (some (.slice none 0 0),1,24):=by kernel_rfl
theorem orow13' {w w':World} {base e size n:Nat} {v:Value} {xs:List Value} (h:w.ownsRow base e size v n xs) (g:Gw w w'):w'.ownsRow base e size v n xs:=by
 refine ⟨h.1,?_⟩
 rcases h.2 with q | ⟨b,cap,cur,rfl,hb,hh,r⟩
 ·exact .inl q
 ·exact .inr ⟨b,cap,cur,rfl,hb,(g.below.block b (Array.getElem?_eq_some_iff.1 hh).1).trans hh,r⟩
theorem new_v13' (w:World) (x:Value) (t:TypeId):∀ j u,[x][j]?=some u→(w.alloc (.cells #[x] t)).cell? ((⟨w.heap.size,0,none⟩:Addr).add j)=some u:=by
 intro j u hu
 cases j with
 | zero =>
  simp only [List.getElem?_cons_zero,Option.some.injEq] at hu
  subst hu
  simp [Addr.add,go_sem]
 | succ j=>simp at hu
end Go.Proofs.YtjhaiiegdnamcabGreat
