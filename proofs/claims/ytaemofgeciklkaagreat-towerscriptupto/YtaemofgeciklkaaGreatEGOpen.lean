import Derived.Lib.SmallJoins
import Derived.Test.YtaemofgeciklkaaGreatEGMem
set_option linter.unusedVariables false
set_option maxRecDepth 10000
open Go.Proofs.Tryz
namespace Go.Proofs.YtaemofgeciklkaaGreat
open Go.ChangeShapes Go.WideShapes Go.ChangeAt Go.RowKit Go.Joins
variable {H:Type}
theorem afy (d:DataW H):1<=Rows.uptoBulk d:=by
 cases d with
 | lit l=>cases l<;>simp [Rows.uptoBulk]
 | nil=>simp [Rows.uptoBulk]
 | ptr d=>simp [Rows.uptoBulk]
 | slice elems spare=>simp [Rows.uptoBulk]
 | agg parts=>simp [Rows.uptoBulk]
 | iface t d=>simp [Rows.uptoBulk]
 | map entries=>simp [Rows.uptoBulk]
 | held h=>simp [Rows.uptoBulk]
theorem afz (l:List (DataW H)):l.length<=Rows.uptoBulkAll l:=by
 induction l with
 | nil=>simp [Rows.uptoBulkAll]
 | cons x r ih=>have:=afy x;simp only [Rows.uptoBulkAll,qak];omega
theorem afA:prog.cellsOf 35=1:=η
theorem Wa {x:Int} (h:(Lit.int .u64 x).wf=true):0<=x/\x<18446744073709551616:=by
 simp [Lit.wf,IntKind.min,IntKind.max,IntKind.signed,IntKind.bits] at h
 exact ⟨ω,ω⟩
theorem afB {w:World} {a:Addr} {v:Value} (h:w.cell? a=some v):a=φ a.block a.off:=by
 obtain ⟨b,o,s⟩:=a;cases s with
 | none=>rfl
 | some s=>unfold World.cell? at h;split at h<;>simp at h
theorem afC {x:Int} (h:(Lit.int .i64 x).wf=true):-9223372036854775808<=x/\x<9223372036854775808:=by
 simp [Lit.wf,IntKind.min,IntKind.max,IntKind.signed,IntKind.bits] at h
 exact ⟨ω,ω⟩
theorem afD:prog.cellsOf 3=1:=η
theorem afE:prog.cellsOf 37=3:=η
theorem afF {enc:TypeId×Value->H} {W:World} {ao:Option Addr} {n c:Nat} {d:DataW H} {p:List MemPlace} (h:DataW.Trod enc prog W 0 (fun _=>true) true 24 (.slice ao n c) d p) :
  ∃ l:List (Int×Int×Int),l.length=n/\vd W ao l/\(ao=none->n=0/\c=0)/\n<=c/\1+n<=Rows.uptoBulk d:=by
 obtain ⟨fuel,hf⟩:=h;rcases Go.Deep.open_slice underlying24 hf with ⟨dR,hx⟩ | ⟨a,aiz,gH,m,fu,D,Pl,dR,_,hl,hmx,hm,hx,rM⟩
 ·simp [Value.cells] at dR
  obtain ⟨rfl,rfl,rfl⟩:=dR;simp only [Prod.mk.injEq] at hx;exact ⟨[],rfl,⟨fun h0=>by simp at h0,fun x hx=>by cases hx⟩,fun _=>⟨rfl,rfl⟩,Yk _,by rw [hx.1];simp [Rows.uptoBulk]⟩
 ·simp [Value.cells] at dR
  obtain ⟨rfl,rfl,rfl⟩:=dR;simp only [Prod.mk.injEq] at hx;simp only [if_true] at hm;subst hm;have each:∀ i,i<n->∃ q:Int×Int×Int,W.cell? (a.add (i*3))=some (.int .i64 q.1)/\W.cell? (a.add (i*3+1))=some (.int .u64 q.2.1)/\W.cell? (a.add (i*3+2))=some (.int .u64 q.2.2)/\(-9223372036854775808<=q.1/\q.1<9223372036854775808)/\(0<=q.2.1/\q.2.1<18446744073709551616)/\0<=q.2.2/\q.2.2<18446744073709551616:=by
   intro i hi;obtain ⟨cs',h1,h2⟩:=rM i ω;rw [afE] at h1;obtain ⟨_,hlen,oJ⟩:=World.cells?_some h1;obtain ⟨y0,y1,y2,fu',_,_,r0,r1,r2⟩:=Go.Deep.trod_struct3 underlying37 h2
   match cs',hlen with
   | [u0,u1,u2],_ =>
    simp [afD,afA] at r0 r1 r2
    obtain ⟨x0,e0,_,w0⟩:=DataW.trod_int underlying3 r0;obtain ⟨x1,e1,_,w1⟩:=DataW.trod_int underlying35 r1;obtain ⟨x2,e2,_,w2⟩:=DataW.trod_int underlying35 r2;simp at e0 e1 e2;subst e0 e1 e2;have c0:=oJ 0 ω;have c1:=oJ 1 ω;have c2:=oJ 2 ω;rw [Go.Deep.add_add] at c0 c1 c2;exact ⟨(x0,x1,x2),by simpa using c0,by simpa using c1,by simpa using c2,afC w0,Wa w1,Wa w2⟩
  have inh:Inhabited (Int×Int×Int):=⟨(0,0,0)⟩;obtain ⟨q,hq⟩:=Go.Deep.choose_lt each;have ln:((List.range n).map q).length=n:=ε;refine ⟨(List.range n).map q,ln,⟨fun h0=>?_,fun x hx=>?_⟩,(fun e=>by cases e),hl,?_⟩
  ·rw [ln] at h0
   have c0:=(hq 0 h0).1;have e0:a.add (0*3)=a:=(by simp [Addr.add]);rw [e0] at c0;have ea:=afB c0;refine ⟨a.block,a.off,by rw [<-ea],World.block_lt_of_cell? _ _ c0,fun i x hx=>?_⟩
   have hi:i<n:=(by have:=(qaT.1 hx).1;omega);have ex:x=q i:=(by simpa [hi] using hx.symm);subst ex;obtain ⟨a1,a2,a3,_⟩:=hq i hi;rw [ea,Addr.add_lit] at a1 a2 a3;exact ⟨a1,by rw [Nat.add_assoc];exact a2,by rw [Nat.add_assoc];exact a3⟩
  ·obtain ⟨i,hi,rfl⟩:=qaA.1 hx
   exact (hq i (List.mem_range.1 hi)).2.2.2
  ·have:=afz ((List.range n).map D)
   rw [hx.1];simp only [Rows.uptoBulk];simp at this;omega
