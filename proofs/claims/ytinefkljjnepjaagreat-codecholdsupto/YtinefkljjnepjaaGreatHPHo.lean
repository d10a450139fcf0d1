/- What comes in, opened: a list of keys. -/
import Derived.Deep.Slices
import Derived.Deep.Strs
import Derived.Lib.SmallJoins
import Derived.OpenShut
import Derived.ProofKit
import Derived.SizedLaws
import Derived.Test.YtinefkljjnepjaaGreatHPBs
import Derived.Test.YtinefkljjnepjaaGreatHPOc
import Derived.Test.YtinefkljjnepjaaGreatHPVr
import Derived.Test.YtinefkljjnepjaaGreatHPE3
namespace Go.Proofs.YtinefkljjnepjaaGreat
open Go.ChangeShapes Go.WideShapes Go.ChangeAt Go.RowKit
set_option linter.unusedVariables false
theorem spot_none {w:World} {a:Addr} {v:Value} (h:w.cell? a=some v):a=⟨a.block,a.off,none⟩:=by
 obtain ⟨b,o,s⟩:=a
 cases s with
 | none=>rfl
 | some s=>unfold World.cell? at h;split at h<;>simp at h
theorem u64_wf {x:Int} (h:(Lit.int .u64 x).wf=true):0≤x∧x<18446744073709551616:=by
 simp [Lit.wf,IntKind.min,IntKind.max,IntKind.signed,IntKind.bits] at h
 exact ⟨by omega,by omega⟩
theorem cells_k:Tryz.prog.cellsOf 52=1:=by kernel_rfl
theorem open_keys {H:Type} {enc:TypeId×Value→H} {W:World} {ao:Option Addr} {n c:Nat} {d:DataW H} {p:List MemPlace} (h:DataW.Trod enc Tryz.prog W 0 (fun _=>true) true 51 (.slice ao n c) d p) :
  ∃ f,KS W ao n f∧(ao=none→n=0∧c=0)∧n≤c∧((d=.nil∧n=0)∨∃ es sp,d=.slice es sp∧es.length+sp.length=c):=by
 obtain ⟨fuel,hf⟩:=h
 rcases open_ints Tryz.underlying51 Tryz.underlying52 cells_k hf with ⟨hcs,hx⟩ | ⟨a,len',cap',zs,hcs,_,hl,hmx,hz,hx,hcell,hwz⟩
 ·simp [Value.cells] at hcs
  obtain ⟨rfl,rfl,rfl⟩:=hcs
  simp only [Prod.mk.injEq] at hx
  exact ⟨fun _=>0,⟨fun h0=>by omega,fun i hi=>by omega⟩,fun _=>⟨rfl,rfl⟩,Nat.le_refl _, .inl ⟨hx.1,rfl⟩⟩
 ·simp [Value.cells] at hcs
  obtain ⟨rfl,rfl,rfl⟩:=hcs
  simp only [Prod.mk.injEq] at hx
  simp only [if_true] at hz
  refine ⟨fun i=>zs.getD i 0,⟨fun h0=>?_,fun i hi=>?_⟩,(fun e=>by cases e),hl, .inr ⟨_,_,hx.1,by simp [lits];omega⟩⟩
  ·have c0:=hcell 0 (by omega)
   have e0:a.add 0=a:=by simp [Addr.add]
   rw [e0] at c0
   have ea:=spot_none c0
   refine ⟨a.block,a.off,by rw [←ea],World.block_lt_of_cell? _ _ c0,fun i hi=>?_⟩
   have:=hcell i (by omega)
   rw [ea,Addr.add_lit] at this
   exact this
  ·have hi':i<zs.length:=by omega
   have:=u64_wf (hwz zs[i] (List.getElem_mem hi'))
   simpa [List.getD,hi'] using this
end Go.Proofs.YtinefkljjnepjaaGreat
namespace Go.Proofs.YtinefkljjnepjaaGreat
open Go.ChangeShapes Go.WideShapes Go.ChangeAt Go.RowKit
set_option linter.unusedVariables false
structure AQ (w:World) (ao:Option Addr) (n:Nat) (q lv sl:Nat→Int):Prop where
 cells:0<n→∃ b off,ao=some ⟨b,off,none⟩∧b<w.heap.size∧∀ i,i<n→w.cell? ⟨b,off+i*3,none⟩=some (.int .u64 (q i))∧w.cell? ⟨b,off+i*3+1,none⟩=some (.int .i64 (lv i))∧w.cell? ⟨b,off+i*3+2,none⟩=some (.int .i64 (sl i))
 bd:∀ i,i<n→(0≤q i∧q i<18446744073709551616)∧(-9223372036854775808≤lv i∧lv i<9223372036854775808)∧(-9223372036854775808≤sl i∧sl i<9223372036854775808)
theorem AQ.gw {w w':World} {ao:Option Addr} {n:Nat} {q lv sl:Nat→Int} (h:AQ w ao n q lv sl) (g:Gw w w'):AQ w' ao n q lv sl :=
 ⟨fun hn=>by
  obtain ⟨b,off,e,hb,hc⟩:=h.cells hn
  exact ⟨b,off,e,Nat.lt_of_lt_of_le hb g.size,fun i hi=>⟨(g.cell _ _ hb).trans (hc i hi).1,(g.cell _ _ hb).trans (hc i hi).2.1,(g.cell _ _ hb).trans (hc i hi).2.2⟩⟩,h.bd⟩
end Go.Proofs.YtinefkljjnepjaaGreat
namespace Go.Proofs.YtinefkljjnepjaaGreat
open Go.ChangeShapes Go.WideShapes Go.ChangeAt Go.RowKit Go.Joins
set_option linter.unusedVariables false
end Go.Proofs.YtinefkljjnepjaaGreat
namespace Go.Proofs.YtinefkljjnepjaaGreat
open Go.ChangeShapes Go.WideShapes Go.ChangeAt Go.RowKit
set_option linter.unusedVariables false
theorem u8_wf {x:Int} (h:(Lit.int .u8 x).wf=true):0≤x∧x<256:=by
 simp [Lit.wf,IntKind.min,IntKind.max,IntKind.signed,IntKind.bits] at h
 exact ⟨by omega,by omega⟩
theorem cells_b12:Tryz.prog.cellsOf 5=1:=by kernel_rfl
theorem open_bytes {H:Type} {enc:TypeId×Value→H} {W:World} {ao:Option Addr} {n c:Nat} {d:DataW H} {p:List MemPlace} (h:DataW.Trod enc Tryz.prog W 0 (fun _=>true) true 31 (.slice ao n c) d p) :
  ∃ f,BS W ao n f∧(ao=none→n=0∧c=0)∧n≤c∧((d=.nil∧n=0)∨∃ es sp,d=.slice es sp∧es.length+sp.length=c):=by
 obtain ⟨fuel,hf⟩:=h
 rcases open_ints Tryz.underlying31 Tryz.underlying5 cells_b12 hf with ⟨hcs,hx⟩ | ⟨a,len',cap',zs,hcs,_,hl,hmx,hz,hx,hcell,hwz⟩
 ·simp [Value.cells] at hcs
  obtain ⟨rfl,rfl,rfl⟩:=hcs
  simp only [Prod.mk.injEq] at hx
  exact ⟨fun _=>0,⟨fun h0=>by omega,fun i hi=>by omega⟩,fun _=>⟨rfl,rfl⟩,Nat.le_refl _, .inl ⟨hx.1,rfl⟩⟩
 ·simp [Value.cells] at hcs
  obtain ⟨rfl,rfl,rfl⟩:=hcs
  simp only [Prod.mk.injEq] at hx
  simp only [if_true] at hz
  refine ⟨fun i=>zs.getD i 0,⟨fun h0=>?_,fun i hi=>?_⟩,(fun e=>by cases e),hl, .inr ⟨_,_,hx.1,by simp [lits];omega⟩⟩
  ·have c0:=hcell 0 (by omega)
   have e0:a.add 0=a:=by simp [Addr.add]
   rw [e0] at c0
   have ea:=spot_none c0
   refine ⟨a.block,a.off,by rw [←ea],World.block_lt_of_cell? _ _ c0,fun i hi=>?_⟩
   have:=hcell i (by omega)
   rw [ea,Addr.add_lit] at this
   exact this
  ·have hi':i<zs.length:=by omega
   have:=u8_wf (hwz zs[i] (List.getElem_mem hi'))
   simpa [List.getD,hi'] using this
end Go.Proofs.YtinefkljjnepjaaGreat
