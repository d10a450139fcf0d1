/- What comes in, opened: entries and lists of them. -/
import Derived.Lib.SmallJoins
import Derived.OpenShut
import Derived.Test.YtemijdhemdhclaaGreatNGMem
set_option linter.unusedVariables false
set_option maxRecDepth 10000
open Go.Proofs.Tryz
namespace Go.Proofs.YtemijdhemdhclaaGreat
open Go.ChangeShapes Go.WideShapes Go.ChangeAt Go.RowKit Go.Joins
theorem heft_one {H:Type} (d:DataW H):1<=Rows.uptoBulk d:=by
 cases d with
 | lit l=>cases l<;>simp [Rows.uptoBulk]
 | nil=>simp [Rows.uptoBulk]
 | ptr d=>simp [Rows.uptoBulk]
 | slice elems spare=>simp [Rows.uptoBulk]
 | agg parts=>simp [Rows.uptoBulk]
 | iface t d=>simp [Rows.uptoBulk]
 | map entries=>simp [Rows.uptoBulk]
 | held h=>simp [Rows.uptoBulk]
theorem heft_many {H:Type} (l:List (DataW H)):l.length<=Rows.uptoBulkAll l:=by
 induction l with
 | nil=>simp [Rows.uptoBulkAll]
 | cons x r ih=>have:=heft_one x;simp only [Rows.uptoBulkAll,List.length_cons];omega
theorem cells_u13:prog.cellsOf 36=1:=by kernel_rfl
theorem u64_in13 {x:Int} (h:(Lit.int .u64 x).wf=true):0<=x/\x<18446744073709551616:=by
 simp [Lit.wf,IntKind.min,IntKind.max,IntKind.signed,IntKind.bits] at h
 exact ⟨by omega,by omega⟩
theorem spot_none13 {w:World} {a:Addr} {v:Value} (h:w.cell? a=some v):a=⟨a.block,a.off,none⟩:=by
 obtain ⟨b,o,s⟩:=a;cases s with
 | none=>rfl
 | some s=>unfold World.cell? at h;split at h<;>simp at h
theorem i64_in16 {x:Int} (h:(Lit.int .i64 x).wf=true):-9223372036854775808<=x/\x<9223372036854775808:=by
 simp [Lit.wf,IntKind.min,IntKind.max,IntKind.signed,IntKind.bits] at h
 exact ⟨by omega,by omega⟩
theorem cells_i16:prog.cellsOf 3=1:=by kernel_rfl
theorem cells_op16:prog.cellsOf 38=3:=by kernel_rfl
theorem open_tops {H:Type} {enc:TypeId×Value->H} {W:World} {ao:Option Addr} {n c:Nat} {d:DataW H} {p:List MemPlace} (h:DataW.Trod enc prog W 0 (fun _=>true) true 31 (.slice ao n c) d p) :
  ∃ l:List (Int×Int×Int),l.length=n/\OTL W ao l/\(ao=none->n=0/\c=0)/\n<=c/\1+n<=Rows.uptoBulk d:=by
 obtain ⟨fuel,hf⟩:=h;rcases Go.Deep.open_slice underlying31 hf with ⟨hcs,hx⟩ | ⟨a,len',cap',m,fu,D,Pl,hcs,_,hl,hmx,hm,hx,hel⟩
 ·simp [Value.cells] at hcs
  obtain ⟨rfl,rfl,rfl⟩:=hcs;simp only [Prod.mk.injEq] at hx;exact ⟨[],rfl,⟨fun h0=>by simp at h0,fun x hx=>by cases hx⟩,fun _=>⟨rfl,rfl⟩,Nat.le_refl _,by rw [hx.1];simp [Rows.uptoBulk]⟩
 ·simp [Value.cells] at hcs
  obtain ⟨rfl,rfl,rfl⟩:=hcs;simp only [Prod.mk.injEq] at hx;simp only [if_true] at hm;subst hm;have each:∀ i,i<n->∃ q:Int×Int×Int,W.cell? (a.add (i*3))=some (.int .i64 q.1)/\W.cell? (a.add (i*3+1))=some (.int .u64 q.2.1)/\W.cell? (a.add (i*3+2))=some (.int .u64 q.2.2)/\(-9223372036854775808<=q.1/\q.1<9223372036854775808)/\(0<=q.2.1/\q.2.1<18446744073709551616)/\0<=q.2.2/\q.2.2<18446744073709551616:=by
   intro i hi;obtain ⟨cs',h1,h2⟩:=hel i (by omega)
   rw [cells_op16] at h1;obtain ⟨_,hlen,hcc⟩:=World.cells?_some h1;obtain ⟨y0,y1,y2,fu',_,_,r0,r1,r2⟩:=Go.Deep.trod_struct3 underlying38 h2
   match cs',hlen with
   | [u0,u1,u2],_ =>
    simp [cells_i16,cells_u13] at r0 r1 r2
    obtain ⟨x0,e0,_,w0⟩:=DataW.trod_int underlying3 r0;obtain ⟨x1,e1,_,w1⟩:=DataW.trod_int underlying36 r1;obtain ⟨x2,e2,_,w2⟩:=DataW.trod_int underlying36 r2;simp at e0 e1 e2;subst e0 e1 e2;have c0:=hcc 0 (by omega)
    have c1:=hcc 1 (by omega)
    have c2:=hcc 2 (by omega)
    rw [Go.Deep.add_add] at c0 c1 c2;exact ⟨(x0,x1,x2),by simpa using c0,by simpa using c1,by simpa using c2,i64_in16 w0,u64_in13 w1,u64_in13 w2⟩
  have inh:Inhabited (Int×Int×Int):=⟨(0,0,0)⟩;obtain ⟨q,hq⟩:=Go.Deep.choose_lt each;have ln:((List.range n).map q).length=n:=by simp
  refine ⟨(List.range n).map q,ln,⟨fun h0=>?_,fun x hx=>?_⟩,(fun e=>by cases e),hl,?_⟩
  ·rw [ln] at h0
   have c0:=(hq 0 h0).1;have e0:a.add (0*3)=a:=by simp [Addr.add]
   rw [e0] at c0;have ea:=spot_none13 c0;refine ⟨a.block,a.off,by rw [<-ea],World.block_lt_of_cell? _ _ c0,fun i x hx=>?_⟩
   have hi:i<n:=by have:=(List.getElem?_eq_some_iff.1 hx).1;omega
   have ex:x=q i:=by simpa [hi] using hx.symm
   subst ex;obtain ⟨a1,a2,a3,_⟩:=hq i hi;rw [ea,Addr.add_lit] at a1 a2 a3;exact ⟨a1,by rw [Nat.add_assoc];exact a2,by rw [Nat.add_assoc];exact a3⟩
  ·obtain ⟨i,hi,rfl⟩:=List.mem_map.1 hx
   exact (hq i (List.mem_range.1 hi)).2.2.2
  ·have:=heft_many ((List.range n).map D)
   rw [hx.1];simp only [Rows.uptoBulk];simp at this;omega
end Go.Proofs.YtemijdhemdhclaaGreat
