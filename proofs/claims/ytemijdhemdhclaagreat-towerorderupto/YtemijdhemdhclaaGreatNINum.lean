/- What comes in, opened: numbers. -/
import Derived.Test.YtemijdhemdhclaaGreatNIWOrder
import Derived.Test.YtemijdhemdhclaaGreatNGOpen
set_option linter.unusedVariables false
set_option maxRecDepth 10000
open Go.Proofs.Tryz
namespace Go.Proofs.YtemijdhemdhclaaGreat
open Go.ChangeShapes Go.WideShapes Go.ChangeAt Go.RowKit Go.Joins
theorem open_nums {H:Type} {enc:TypeId×Value->H} {W:World} {ao:Option Addr} {n c:Nat} {d:DataW H} {p:List MemPlace} (h:DataW.Trod enc prog W 0 (fun _=>true) true 50 (.slice ao n c) d p) :
  ∃ l:List Int,l.length=n/\NLo W ao l/\(ao=none->n=0/\c=0)/\n<=c/\1+n<=Rows.uptoBulk d:=by
 obtain ⟨fuel,hf⟩:=h;rcases Go.Deep.open_slice underlying50 hf with ⟨hcs,hx⟩ | ⟨a,len',cap',m,fu,D,Pl,hcs,_,hl,hmx,hm,hx,hel⟩
 ·simp [Value.cells] at hcs
  obtain ⟨rfl,rfl,rfl⟩:=hcs;simp only [Prod.mk.injEq] at hx;exact ⟨[],rfl,⟨fun h0=>by simp at h0,fun x hx=>by cases hx⟩,fun _=>⟨rfl,rfl⟩,Nat.le_refl _,by rw [hx.1];simp [Rows.uptoBulk]⟩
 ·simp [Value.cells] at hcs
  obtain ⟨rfl,rfl,rfl⟩:=hcs;simp only [Prod.mk.injEq] at hx;simp only [if_true] at hm;subst hm;have each:∀ i,i<n->∃ q:Int,W.cell? (a.add i)=some (.int .i64 q)/\-9223372036854775808<=q/\q<9223372036854775808:=by
   intro i hi;obtain ⟨cs',h1,h2⟩:=hel i (by omega)
   rw [show prog.cellsOf 3=1 by kernel_rfl,Nat.mul_one] at h1
   obtain ⟨_,hlen,hcc⟩:=World.cells?_some h1
   match cs',hlen with
   | [u0],_ =>
    obtain ⟨x0,e0,_,w0⟩:=DataW.trod_int underlying3 h2;simp at e0;subst e0;have c0:=hcc 0 (by omega)
    rw [Go.Deep.add_add] at c0;exact ⟨x0,by simpa using c0,i64_in16 w0⟩
  obtain ⟨q,hq⟩:=Go.Deep.choose_lt each;have ln:((List.range n).map q).length=n:=by simp
  refine ⟨(List.range n).map q,ln,⟨fun h0=>?_,fun x hx=>?_⟩,(fun e=>by cases e),hl,?_⟩
  ·rw [ln] at h0
   have c0:=(hq 0 h0).1;have e0:a.add 0=a:=by simp [Addr.add]
   rw [e0] at c0;have ea:=spot_none13 c0;refine ⟨a.block,a.off,by rw [<-ea],World.block_lt_of_cell? _ _ c0,fun i x hx=>?_⟩
   have hi:i<n:=by have:=(List.getElem?_eq_some_iff.1 hx).1;omega
   have ex:x=q i:=by simpa [hi] using hx.symm
   subst ex;obtain ⟨a1,_⟩:=hq i hi;rw [ea,Addr.add_lit] at a1;exact a1
  ·obtain ⟨i,hi,rfl⟩:=List.mem_map.1 hx
   exact (hq i (List.mem_range.1 hi)).2
  ·have:=heft_many ((List.range n).map D)
   rw [hx.1];simp only [Rows.uptoBulk];simp at this;omega
end Go.Proofs.YtemijdhemdhclaaGreat
