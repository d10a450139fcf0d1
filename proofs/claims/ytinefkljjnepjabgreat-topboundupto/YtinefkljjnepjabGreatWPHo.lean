/- What comes in, opened: a list of keys. -/
import Derived.Deep.Slices
import Derived.Deep.Strs
import Derived.Lib.SmallJoins
import Derived.OpenShut
import Derived.ProofKit
import Derived.SizedLaws
import Derived.Test.YtinefkljjnepjabGreatWPBs
import Derived.Test.YtinefkljjnepjabGreatWPVr
import Derived.Test.YtinefkljjnepjabGreatWPE3
import Derived.Test.YtinefkljjnepjabGreatWPOc
namespace Go.Proofs.YtinefkljjnepjabGreat
open Go.ChangeShapes Go.WideShapes Go.ChangeAt Go.RowKit
set_option linter.unusedVariables false
theorem spot_none {w:World} {a:Addr} {v:Value} (h:w.cell? a=some v):a=⟨a.block,a.off,none⟩:=by
 obtain ⟨b,o,s⟩:=a
 cases s with
 | none=>rfl
 | some s=>unfold World.cell? at h;split at h<;>simp at h
theorem u64_wf {x:Int} (h:(Lit.int .u64 x).wf=true):0≤x∧x<18446744073709551616:=by
 simp [Lit.wf,IntKind.min,IntKind.max,IntKind.signed,IntKind.bits] at h
 exact ⟨by omega,by omega⟩
theorem cells_k:Tryz.prog.cellsOf 37=1:=by kernel_rfl
theorem open_keys {H:Type} {enc:TypeId×Value→H} {W:World} {ao:Option Addr} {n c:Nat} {d:DataW H} {p:List MemPlace} (h:DataW.Trod enc Tryz.prog W 0 (fun _=>true) true 44 (.slice ao n c) d p) :
  ∃ f,KS W ao n f∧(ao=none→n=0∧c=0)∧n≤c∧((d=.nil∧n=0)∨∃ es sp,d=.slice es sp∧es.length+sp.length=c):=by
 obtain ⟨fuel,hf⟩:=h
 rcases open_ints Tryz.underlying44 Tryz.underlying37 cells_k hf with ⟨hcs,hx⟩ | ⟨a,len',cap',zs,hcs,_,hl,hmx,hz,hx,hcell,hwz⟩
 ·simp [Value.cells] at hcs
  obtain ⟨rfl,rfl,rfl⟩:=hcs
  simp only [Prod.mk.injEq] at hx
  exact ⟨fun _=>0,⟨fun h0=>by omega,fun i hi=>by omega⟩,fun _=>⟨rfl,rfl⟩,Nat.le_refl _, .inl ⟨hx.1,rfl⟩⟩
 ·simp [Value.cells] at hcs
  obtain ⟨rfl,rfl,rfl⟩:=hcs
  simp only [Prod.mk.injEq] at hx
  simp only [if_true] at hz
  refine ⟨fun i=>zs.getD i 0,⟨fun h0=>?_,fun i hi=>?_⟩,(fun e=>by cases e),hl, .inr ⟨_,_,hx.1,by simp [lits];omega⟩⟩
  ·have c0:=hcell 0 (by omega)
   have e0:a.add 0=a:=by simp [Addr.add]
   rw [e0] at c0
   have ea:=spot_none c0
   refine ⟨a.block,a.off,by rw [←ea],World.block_lt_of_cell? _ _ c0,fun i hi=>?_⟩
   have:=hcell i (by omega)
   rw [ea,Addr.add_lit] at this
   exact this
  ·have hi':i<zs.length:=by omega
   have:=u64_wf (hwz zs[i] (List.getElem_mem hi'))
   simpa [List.getD,hi'] using this
end Go.Proofs.YtinefkljjnepjabGreat
namespace Go.Proofs.YtinefkljjnepjabGreat
open Go.ChangeShapes Go.WideShapes Go.ChangeAt Go.RowKit
set_option linter.unusedVariables false
theorem cells_e:Tryz.prog.cellsOf 39=3:=by kernel_rfl
theorem cells_b:Tryz.prog.cellsOf 4=1:=by kernel_rfl
set_option maxRecDepth 10000 in
theorem open_entries {H:Type} {enc:TypeId×Value→H} {W:World} {ao:Option Addr} {n c:Nat} {d:DataW H} {p:List MemPlace} (h:DataW.Trod enc Tryz.prog W 0 (fun _=>true) true 22 (.slice ao n c) d p) :
  ∃ k v g,ES W ao n k v g∧(ao=none→n=0∧c=0)∧n≤c∧((d=.nil∧n=0)∨∃ es sp,d=.slice es sp∧es.length+sp.length=c):=by
 obtain ⟨fuel,hf⟩:=h
 rcases Go.Deep.open_slice Tryz.underlying22 hf with ⟨hcs,hx⟩ | ⟨a,len',cap',m,fu,D,Pl,hcs,_,hl,hmx,hm,hx,hel⟩
 ·simp [Value.cells] at hcs
  obtain ⟨rfl,rfl,rfl⟩:=hcs
  simp only [Prod.mk.injEq] at hx
  exact ⟨fun _=>0,fun _=>0,fun _=>false,⟨fun h0=>by omega,fun i hi=>by omega⟩,fun _=>⟨rfl,rfl⟩,Nat.le_refl _, .inl ⟨hx.1,rfl⟩⟩
 ·simp [Value.cells] at hcs
  obtain ⟨rfl,rfl,rfl⟩:=hcs
  simp only [Prod.mk.injEq] at hx
  simp only [if_true] at hm
  subst hm
  have each:∀ i,i<n→∃ q:Int×Int×Bool,W.cell? (a.add (i*3))=some (.int .u64 q.1)∧W.cell? (a.add (i*3+1))=some (.int .u64 q.2.1)∧W.cell? (a.add (i*3+2))=some (.bool q.2.2)∧(0≤q.1∧q.1<18446744073709551616)∧(0≤q.2.1∧q.2.1<18446744073709551616):=by
   intro i hi
   obtain ⟨cs',h1,h2⟩:=hel i (by omega)
   rw [cells_e] at h1
   obtain ⟨_,hlen,hcc⟩:=World.cells?_some h1
   obtain ⟨y0,y1,y2,fu',_,_,q0,q1,q2⟩:=Go.Deep.trod_struct3 Tryz.underlying39 h2
   match cs',hlen with
   | [u0,u1,u2],_ =>
    simp [cells_k,cells_b] at q0 q1 q2
    obtain ⟨x0,e0,_,w0⟩:=DataW.trod_int Tryz.underlying37 q0
    obtain ⟨x1,e1,_,w1⟩:=DataW.trod_int Tryz.underlying37 q1
    obtain ⟨x2,e2,_⟩:=DataW.trod_bool Tryz.underlying4 q2
    simp at e0 e1 e2
    subst e0 e1 e2
    have c0:=hcc 0 (by omega)
    have c1:=hcc 1 (by omega)
    have c2:=hcc 2 (by omega)
    rw [Go.Deep.add_add] at c0 c1 c2
    exact ⟨(x0,x1,x2),by simpa using c0,by simpa using c1,by simpa using c2,u64_wf w0,u64_wf w1⟩
  obtain ⟨q,hq⟩:=Go.Deep.choose_lt each
  refine ⟨fun i=>(q i).1,fun i=>(q i).2.1,fun i=>(q i).2.2,⟨fun h0=>?_,fun i hi=>(hq i hi).2.2.2⟩,(fun e=>by cases e),hl, .inr ⟨_,_,hx.1,by simp;omega⟩⟩
  have c0:=(hq 0 h0).1
  have e0:a.add (0*3)=a:=by simp [Addr.add]
  rw [e0] at c0
  have ea:=spot_none c0
  refine ⟨a.block,a.off,by rw [←ea],World.block_lt_of_cell? _ _ c0,fun i hi=>?_⟩
  obtain ⟨a1,a2,a3,_⟩:=hq i hi
  rw [ea,Addr.add_lit] at a1 a2 a3
  exact ⟨a1,a2,a3⟩
structure AQ (w:World) (ao:Option Addr) (n:Nat) (q lv sl:Nat→Int):Prop where
 cells:0<n→∃ b off,ao=some ⟨b,off,none⟩∧b<w.heap.size∧∀ i,i<n→w.cell? ⟨b,off+i*3,none⟩=some (.int .u64 (q i))∧w.cell? ⟨b,off+i*3+1,none⟩=some (.int .i64 (lv i))∧w.cell? ⟨b,off+i*3+2,none⟩=some (.int .i64 (sl i))
 bd:∀ i,i<n→(0≤q i∧q i<18446744073709551616)∧(-9223372036854775808≤lv i∧lv i<9223372036854775808)∧(-9223372036854775808≤sl i∧sl i<9223372036854775808)
theorem AQ.gw {w w':World} {ao:Option Addr} {n:Nat} {q lv sl:Nat→Int} (h:AQ w ao n q lv sl) (g:Gw w w'):AQ w' ao n q lv sl :=
 ⟨fun hn=>by
  obtain ⟨b,off,e,hb,hc⟩:=h.cells hn
  exact ⟨b,off,e,Nat.lt_of_lt_of_le hb g.size,fun i hi=>⟨(g.cell _ _ hb).trans (hc i hi).1,(g.cell _ _ hb).trans (hc i hi).2.1,(g.cell _ _ hb).trans (hc i hi).2.2⟩⟩,h.bd⟩
end Go.Proofs.YtinefkljjnepjabGreat
namespace Go.Proofs.YtinefkljjnepjabGreat
open Go.ChangeShapes Go.WideShapes Go.ChangeAt Go.RowKit Go.Joins
set_option linter.unusedVariables false
end Go.Proofs.YtinefkljjnepjabGreat
namespace Go.Proofs.YtinefkljjnepjabGreat
open Go.ChangeShapes Go.WideShapes Go.ChangeAt Go.RowKit
set_option linter.unusedVariables false
theorem u8_wf {x:Int} (h:(Lit.int .u8 x).wf=true):0≤x∧x<256:=by
 simp [Lit.wf,IntKind.min,IntKind.max,IntKind.signed,IntKind.bits] at h
 exact ⟨by omega,by omega⟩
theorem cells_b12:Tryz.prog.cellsOf 5=1:=by kernel_rfl
theorem open_bytes {H:Type} {enc:TypeId×Value→H} {W:World} {ao:Option Addr} {n c:Nat} {d:DataW H} {p:List MemPlace} (h:DataW.Trod enc Tryz.prog W 0 (fun _=>true) true 31 (.slice ao n c) d p) :
  ∃ f,BS W ao n f∧(ao=none→n=0∧c=0)∧n≤c∧((d=.nil∧n=0)∨∃ es sp,d=.slice es sp∧es.length+sp.length=c):=by
 obtain ⟨fuel,hf⟩:=h
 rcases open_ints Tryz.underlying31 Tryz.underlying5 cells_b12 hf with ⟨hcs,hx⟩ | ⟨a,len',cap',zs,hcs,_,hl,hmx,hz,hx,hcell,hwz⟩
 ·simp [Value.cells] at hcs
  obtain ⟨rfl,rfl,rfl⟩:=hcs
  simp only [Prod.mk.injEq] at hx
  exact ⟨fun _=>0,⟨fun h0=>by omega,fun i hi=>by omega⟩,fun _=>⟨rfl,rfl⟩,Nat.le_refl _, .inl ⟨hx.1,rfl⟩⟩
 ·simp [Value.cells] at hcs
  obtain ⟨rfl,rfl,rfl⟩:=hcs
  simp only [Prod.mk.injEq] at hx
  simp only [if_true] at hz
  refine ⟨fun i=>zs.getD i 0,⟨fun h0=>?_,fun i hi=>?_⟩,(fun e=>by cases e),hl, .inr ⟨_,_,hx.1,by simp [lits];omega⟩⟩
  ·have c0:=hcell 0 (by omega)
   have e0:a.add 0=a:=by simp [Addr.add]
   rw [e0] at c0
   have ea:=spot_none c0
   refine ⟨a.block,a.off,by rw [←ea],World.block_lt_of_cell? _ _ c0,fun i hi=>?_⟩
   have:=hcell i (by omega)
   rw [ea,Addr.add_lit] at this
   exact this
  ·have hi':i<zs.length:=by omega
   have:=u8_wf (hwz zs[i] (List.getElem_mem hi'))
   simpa [List.getD,hi'] using this
end Go.Proofs.YtinefkljjnepjabGreat
