/- What comes in, opened: bytes. -/
import Derived.Lib.SmallJoins
import Derived.Test.YtpoohadckhphpaaGreatBOBase
import Derived.Test.YtpoohadckhphpaaGreatBHOpen
set_option linter.unusedVariables false
open Go.Proofs.Tryz
namespace Go.Proofs.YtpoohadckhphpaaGreat
open Go.ChangeShapes Go.WideShapes Go.ChangeAt Go.RowKit
theorem u8_wf {x:Int} (h:(Lit.int .u8 x).wf=true):0<=x/\x<256:=by
 simp [Lit.wf,IntKind.min,IntKind.max,IntKind.signed,IntKind.bits] at h
 exact ⟨by omega,by omega⟩
theorem cells_b12:prog.cellsOf 5=1:=by kernel_rfl
theorem open_bytes {H:Type} {enc:TypeId×Value->H} {W:World} {ao:Option Addr} {n c:Nat} {d:DataW H} {p:List MemPlace} (h:DataW.Trod enc prog W 0 (fun _=>true) true 22 (.slice ao n c) d p) :
  ∃ f,BS W ao n f/\(ao=none->n=0/\c=0)/\n<=c/\((d=.nil/\n=0)\/∃ es sp,d=.slice es sp/\es.length+sp.length=c):=by
 obtain ⟨fuel,hf⟩:=h;rcases open_ints underlying22 underlying5 cells_b12 hf with ⟨hcs,hx⟩ | ⟨a,len',cap',zs,hcs,_,hl,hmx,hz,hx,hcell,hwz⟩
 ·simp [Value.cells] at hcs
  obtain ⟨rfl,rfl,rfl⟩:=hcs;simp only [Prod.mk.injEq] at hx;exact ⟨fun _=>0,⟨fun h0=>by omega,fun i hi=>by omega⟩,fun _=>⟨rfl,rfl⟩,Nat.le_refl _,.inl ⟨hx.1,rfl⟩⟩
 ·simp [Value.cells] at hcs
  obtain ⟨rfl,rfl,rfl⟩:=hcs;simp only [Prod.mk.injEq] at hx;simp only [if_true] at hz;refine ⟨fun i=>zs.getD i 0,⟨fun h0=>?_,fun i hi=>?_⟩,(fun e=>by cases e),hl,.inr ⟨_,_,hx.1,by simp [lits];omega⟩⟩
  ·have c0:=hcell 0 (by omega)
   have e0:a.add 0=a:=by simp [Addr.add]
   rw [e0] at c0;have ea:=spot_none c0;refine ⟨a.block,a.off,by rw [<-ea],World.block_lt_of_cell? _ _ c0,fun i hi=>?_⟩
   have:=hcell i (by omega)
   rw [ea,Addr.add_lit] at this;exact this
  ·have hi':i<zs.length:=by omega
   have:=u8_wf (hwz zs[i] (List.getElem_mem hi'))
   simpa [List.getD,hi'] using this
end Go.Proofs.YtpoohadckhphpaaGreat
