/- What comes in, opened: entries and lists of them. -/
import Derived.Lib.SmallJoins
import Derived.OpenShut
import Derived.Test.YtepcddmkfdlcjaaGreatRows
import Derived.Test.YtepcddmkfdlcjaaGreatLGPlain
namespace Go.Proofs.YtepcddmkfdlcjaaGreat
open Go.ChangeShapes Go.WideShapes Go.ChangeAt Go.RowKit Go.Joins
set_option linter.unusedVariables false
theorem heft_one {H:Type} (d:DataW H):1≤Rows.uptoBulk d:=by
 cases d with
 | lit l=>cases l<;>simp [Rows.uptoBulk]
 | nil=>simp [Rows.uptoBulk]
 | ptr d=>simp [Rows.uptoBulk]
 | slice elems spare=>simp [Rows.uptoBulk]
 | agg parts=>simp [Rows.uptoBulk]
 | iface t d=>simp [Rows.uptoBulk]
 | map entries=>simp [Rows.uptoBulk]
 | held h=>simp [Rows.uptoBulk]
theorem heft_many {H:Type} (l:List (DataW H)):l.length≤Rows.uptoBulkAll l:=by
 induction l with
 | nil=>simp [Rows.uptoBulkAll]
 | cons x r ih=>have:=heft_one x;simp only [Rows.uptoBulkAll,List.length_cons];omega
theorem heft_aggs {H:Type} (c:Nat):∀ l:List (DataW H),(∀ x∈l,∃ ps,x=.agg ps∧ps.length=c)→(c+1)*l.length≤Rows.uptoBulkAll l
 | [],_=>by simp [Rows.uptoBulkAll]
 | x::r,h=>by
  have ih:=heft_aggs c r fun y hy=>h y (List.mem_cons_of_mem _ hy)
  obtain ⟨ps,rfl,e⟩:=h x (List.mem_cons_self ..)
  have:=heft_many ps
  simp only [Rows.uptoBulkAll,Rows.uptoBulk,List.length_cons,Nat.mul_add,Nat.mul_one]
  omega
theorem heft_lists {H:Type}:∀ (es:List (DataW H)) (L:List (List Ent)),es.length=L.length→(∀ i,i<L.length→1+4*(L.getD i []).length≤Rows.uptoBulk (es.getD i .nil))→L.length+4*sizes L≤Rows.uptoBulkAll es
 | [],[],_,_=>by simp [Rows.uptoBulkAll,sizes]
 | [],_::_,e,_=>by simp at e
 | _::_,[],e,_=>by simp at e
 | x::r,l::L,e,h=>by
  have ih:=heft_lists r L (by simpa using e) fun i hi=>by simpa using h (i+1) (by simpa using hi)
  have h0:1+4*l.length≤Rows.uptoBulk x:=h 0 (by simp)
  simp only [Rows.uptoBulkAll,List.length_cons,sizes_cons]
  omega
theorem cells_e13:Tryz.prog.cellsOf 40=3:=by kernel_rfl
theorem cells_u13:Tryz.prog.cellsOf 34=1:=by kernel_rfl
theorem cells_b13:Tryz.prog.cellsOf 4=1:=by kernel_rfl
theorem cells_es13:Tryz.prog.cellsOf 35=1:=by kernel_rfl
theorem u64_in13 {x:Int} (h:(Lit.int .u64 x).wf=true):0≤x∧x<18446744073709551616:=by
 simp [Lit.wf,IntKind.min,IntKind.max,IntKind.signed,IntKind.bits] at h
 exact ⟨by omega,by omega⟩
theorem spot_none13 {w:World} {a:Addr} {v:Value} (h:w.cell? a=some v):a=⟨a.block,a.off,none⟩:=by
 obtain ⟨b,o,s⟩:=a
 cases s with
 | none=>rfl
 | some s=>unfold World.cell? at h;split at h<;>simp at h
set_option maxRecDepth 10000 in
theorem open_elist {H:Type} {enc:TypeId×Value→H} {W:World} {fuel:Nat} {cs:List Value} {y:DataW H×List MemPlace} (hf:DataW.trod enc Tryz.prog W 0 (fun _=>true) true fuel 35 cs=some y) :
  ∃ (ao:Option Addr) (c:Nat) (l:List Ent),cs=[.slice ao l.length c]∧EL W ao l∧l.length≤c∧(ao=none→l.length=0∧c=0)∧1+4*l.length≤Rows.uptoBulk y.1:=by
 rcases Go.Deep.open_slice Tryz.underlying35 hf with ⟨rfl,rfl⟩ | ⟨a,n,c,m,fu,D,Pl,rfl,_,hl,hmx,hm,rfl,hel⟩
 ·exact ⟨none,0,[],rfl,⟨fun h0=>by simp at h0,fun i hi=>by simp at hi⟩,Nat.le_refl _,fun _=>⟨rfl,rfl⟩,by simp [Rows.uptoBulk]⟩
 ·simp only [if_true] at hm
  subst hm
  have each:∀ i,i<n→∃ e:Ent,(W.cell? (a.add (i*3))=some (.int .u64 e.k)∧W.cell? (a.add (i*3+1))=some (.int .u64 e.v)∧W.cell? (a.add (i*3+2))=some (.bool e.g))∧e.ok:=by
   intro i hi
   obtain ⟨cs',h1,h2⟩:=hel i (by omega)
   rw [cells_e13] at h1
   obtain ⟨_,hlen,hcc⟩:=World.cells?_some h1
   obtain ⟨y0,y1,y2,fu',_,_,q0,q1,q2⟩:=Go.Deep.trod_struct3 Tryz.underlying40 h2
   match cs',hlen with
   | [u0,u1,u2],_ =>
    simp [cells_u13,cells_b13] at q0 q1 q2
    obtain ⟨x0,e0,_,w0⟩:=DataW.trod_int Tryz.underlying34 q0
    obtain ⟨x1,e1,_,w1⟩:=DataW.trod_int Tryz.underlying34 q1
    obtain ⟨x2,e2,_⟩:=DataW.trod_bool Tryz.underlying4 q2
    simp at e0 e1 e2
    subst e0 e1 e2
    have c0:=hcc 0 (by omega)
    have c1:=hcc 1 (by omega)
    have c2:=hcc 2 (by omega)
    rw [Go.Deep.add_add] at c0 c1 c2
    exact ⟨⟨x0,x1,x2⟩,⟨by simpa using c0,by simpa using c1,by simpa using c2⟩,u64_in13 w0,u64_in13 w1⟩
  have inh:Inhabited Ent:=⟨ent0⟩
  obtain ⟨q,hq⟩:=Go.Deep.choose_lt each
  have ln:((List.range n).map q).length=n:=by simp
  have gt:∀ i,i<n→((List.range n).map q).getD i ent0=q i:=fun i hi=>by simp [List.getD,hi]
  refine ⟨some a,_,(List.range n).map q,by rw [ln],⟨fun h0=>?_,fun i hi=>?_⟩,by rw [ln];exact hl,(fun e=>by cases e),?_⟩
  ·rw [ln] at h0
   have c0:=(hq 0 h0).1.1
   have e0:a.add (0*3)=a:=by simp [Addr.add]
   rw [e0] at c0
   have ea:=spot_none13 c0
   refine ⟨a.block,a.off,by rw [←ea],World.block_lt_of_cell? _ _ c0,fun i hi=>?_⟩
   rw [ln] at hi
   rw [gt i hi]
   obtain ⟨⟨a1,a2,a3⟩,_⟩:=hq i hi
   rw [ea,Addr.add_lit] at a1 a2 a3
   exact ⟨a1,by rw [Nat.add_assoc];exact a2,by rw [Nat.add_assoc];exact a3⟩
  ·rw [ln] at hi
   show (((List.range n).map q).getD i ent0).ok
   rw [gt i hi]
   exact (hq i hi).2
  ·have:=heft_aggs 3 ((List.range n).map D) fun x hx=>by
    obtain ⟨i,hi,rfl⟩:=List.mem_map.1 hx
    have hi':i<n:=List.mem_range.1 hi
    obtain ⟨cs',h1,h2⟩:=hel i (by omega)
    obtain ⟨y0,y1,y2,fu',hx,_⟩:=Go.Deep.trod_struct3 Tryz.underlying40 h2
    simp only [Prod.mk.injEq] at hx
    exact ⟨_,hx.1,rfl⟩
   rw [ln]
   simp only [Rows.uptoBulk]
   simp at this
   omega
set_option maxRecDepth 10000 in
theorem open_elists {H:Type} {enc:TypeId×Value→H} {W:World} {ao:Option Addr} {n c:Nat} {d:DataW H} {p:List MemPlace} (h:DataW.Trod enc Tryz.prog W 0 (fun _=>true) true 70 (.slice ao n c) d p) :
  ∃ L:List (List Ent),L.length=n∧EV W ao L∧(ao=none→n=0∧c=0)∧n≤c∧n+4*sizes L≤Rows.uptoBulk d:=by
 obtain ⟨fuel,hf⟩:=h
 rcases Go.Deep.open_slice Tryz.underlying70 hf with ⟨hcs,hx⟩ | ⟨a,n',c',m,fu,D,Pl,hcs,_,hl,hmx,hm,hx,hel⟩
 ·simp [Value.cells] at hcs
  obtain ⟨rfl,rfl,rfl⟩:=hcs
  exact ⟨[],rfl,⟨fun h0=>by simp at h0⟩,fun _=>⟨rfl,rfl⟩,Nat.le_refl _,by simp [sizes]⟩
 ·simp [Value.cells] at hcs
  obtain ⟨rfl,rfl,rfl⟩:=hcs
  simp only [Prod.mk.injEq] at hx
  simp only [if_true] at hm
  subst hm
  have each:∀ i,i<n→∃ q:Option Addr×Nat×List Ent,W.cell? (a.add i)=some (.slice q.1 q.2.2.length q.2.1)∧EL W q.1 q.2.2∧q.2.2.length≤q.2.1∧(q.1=none→q.2.2.length=0∧q.2.1=0)∧1+4*q.2.2.length≤Rows.uptoBulk (D i):=by
   intro i hi
   obtain ⟨cs',h1,h2⟩:=hel i (by omega)
   rw [cells_es13,Nat.mul_one] at h1
   obtain ⟨bo,c',l,rfl,k1,k2,k3,k4⟩:=open_elist h2
   obtain ⟨_,_,hcc⟩:=World.cells?_some h1
   have c0:=hcc 0 (by omega)
   rw [Go.Deep.add_add] at c0
   exact ⟨(bo,c',l),by simpa using c0,k1,k2,k3,k4⟩
  obtain ⟨q,hq⟩:=Go.Deep.choose_lt each
  have ln:((List.range n).map fun i=>(q i).2.2).length=n:=by simp
  have gt:∀ i,i<n→((List.range n).map fun i=>(q i).2.2).getD i []=(q i).2.2:=fun i hi=>by simp [List.getD,hi]
  refine ⟨(List.range n).map fun i=>(q i).2.2,ln,⟨fun h0=>?_⟩,(fun e=>by cases e),hl,?_⟩
  ·rw [ln] at h0
   have c0:=(hq 0 h0).1
   have e0:a.add 0=a:=by simp [Addr.add]
   rw [e0] at c0
   have ea:=spot_none13 c0
   refine ⟨a.block,a.off,by rw [←ea],World.block_lt_of_cell? _ _ c0,fun i hi=>?_⟩
   rw [ln] at hi
   rw [gt i hi]
   obtain ⟨a1,a2,a3,a4,_⟩:=hq i hi
   rw [ea,Addr.add_lit] at a1
   exact ⟨(q i).1,(q i).2.1,a1,a3,a2,a4⟩
  ·have:=heft_lists ((List.range n).map D) ((List.range n).map fun i=>(q i).2.2) (by simp) fun i hi=>by
    rw [ln] at hi
    rw [gt i hi,show ((List.range n).map D).getD i .nil=D i by simp [List.getD,hi]]
    exact (hq i hi).2.2.2.2
   rw [hx.1]
   simp only [Rows.uptoBulk]
   rw [ln] at this
   omega
end Go.Proofs.YtepcddmkfdlcjaaGreat
