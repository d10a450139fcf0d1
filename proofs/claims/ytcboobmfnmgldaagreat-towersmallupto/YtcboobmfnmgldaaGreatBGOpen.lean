/- What comes in, opened: entries and lists of them. -/
import Derived.Lib.SmallJoins
import Derived.OpenShut
import Derived.Test.YtcboobmfnmgldaaGreatBGMem
set_option linter.unusedVariables false
set_option maxRecDepth 20000
open Go.Proofs.Tryz
namespace Go.Proofs.YtcboobmfnmgldaaGreat
open Go.ChangeShapes Go.WideShapes Go.ChangeAt Go.RowKit Go.Joins
variable {H:Type}
theorem adi (d:DataW H):1<=Rows.uptoBulk d:=by
 cases d with
 | lit l=>cases l<;>simp [Rows.uptoBulk]
 | nil=>simp [Rows.uptoBulk]
 | ptr d=>simp [Rows.uptoBulk]
 | slice elems spare=>simp [Rows.uptoBulk]
 | agg parts=>simp [Rows.uptoBulk]
 | iface t d=>simp [Rows.uptoBulk]
 | map entries=>simp [Rows.uptoBulk]
 | held h=>simp [Rows.uptoBulk]
theorem Tm (l:List (DataW H)):l.length<=Rows.uptoBulkAll l:=by
 induction l with
 | nil=>simp [Rows.uptoBulkAll]
 | cons x r ih=>have:=adi x;simp only [Rows.uptoBulkAll,List.length_cons];omega
theorem Tn (c:Nat):∀ l:List (DataW H),(∀ x∈l,∃ ps,x=.agg ps/\ps.length=c)->(c+1)*l.length<=Rows.uptoBulkAll l
 | [],_=>by simp [Rows.uptoBulkAll]
 | x::r,h=>by
  have ih:=Tn c r fun y hy=>h y (List.mem_cons_of_mem _ hy)
  obtain ⟨ps,rfl,e⟩:=h x (List.mem_cons_self ..);have:=Tm ps;simp only [Rows.uptoBulkAll,Rows.uptoBulk,List.length_cons,Nat.mul_add,Nat.mul_one];omega
theorem To:∀ (es:List (DataW H)) (L:List (List ah)),es.length=L.length->(∀ i,i<L.length->1+4*(L.getD i []).length<=Rows.uptoBulk (es.getD i .nil))->L.length+4*aF L<=Rows.uptoBulkAll es
 | [],[],_,_=>by simp [Rows.uptoBulkAll,aF]
 | [],_::_,e,_=>by simp at e
 | _::_,[],e,_=>by simp at e
 | x::r,l::L,e,h=>by
  have ih:=To r L (by simpa using e) fun i hi=>by simpa using h (i+1) (by simpa using hi)
  have h0:1+4*l.length<=Rows.uptoBulk x:=h 0 (by simp)
  simp only [Rows.uptoBulkAll,List.length_cons,iF];omega
theorem adj:prog.cellsOf 75=3:=by kernel_rfl
theorem Tp:prog.cellsOf 42=1:=by kernel_rfl
theorem adk:prog.cellsOf 4=1:=by kernel_rfl
theorem Tq:prog.cellsOf 24=1:=by kernel_rfl
theorem Bl {x:Int} (h:(Lit.int .u64 x).wf=true):0<=x/\x<18446744073709551616:=by
 simp [Lit.wf,IntKind.min,IntKind.max,IntKind.signed,IntKind.bits] at h
 exact ⟨by omega,by omega⟩
theorem Ik {w:World} {a:Addr} {v:Value} (h:w.cell? a=some v):a=⟨a.block,a.off,none⟩:=by
 obtain ⟨b,o,s⟩:=a;cases s with
 | none=>rfl
 | some s=>unfold World.cell? at h;split at h<;>simp at h
variable {W:World}
theorem Tr {enc:TypeId×Value->H} {fuel:Nat} {cs:List Value} {y:DataW H×List MemPlace} (hf:DataW.trod enc prog W 0 (fun _=>true) true fuel 24 cs=some y) :
  ∃ (ao:Option Addr) (c:Nat) (l:List ah),cs=[.slice ao l.length c]/\EL W ao l/\l.length<=c/\(ao=none->l.length=0/\c=0)/\1+4*l.length<=Rows.uptoBulk y.1:=by
 rcases Go.Deep.open_slice underlying24 hf with ⟨rfl,rfl⟩ | ⟨a,n,c,m,fu,D,Pl,rfl,_,hl,Ts,hm,rfl,jW⟩
 ·exact ⟨none,0,[],rfl,⟨fun h0=>by simp at h0,fun i hi=>by simp at hi⟩,Nat.le_refl _,fun _=>⟨rfl,rfl⟩,by simp [Rows.uptoBulk]⟩
 ·simp only [if_true] at hm
  subst hm;have each:∀ i,i<n->∃ e:ah,(W.cell? (a.add (i*3))=some (.int .u64 e.k)/\W.cell? (a.add (i*3+1))=some (.int .u64 e.v)/\W.cell? (a.add (i*3+2))=some (.bool e.g))/\e.ok:=by
   intro i hi;obtain ⟨x9,h1,h2⟩:=jW i (by omega)
   rw [adj] at h1;obtain ⟨_,hlen,eT⟩:=World.cells?_some h1;obtain ⟨y0,y1,y2,Il,_,_,q0,q1,q2⟩:=Go.Deep.trod_struct3 underlying75 h2
   match x9,hlen with
   | [u0,u1,u2],_ =>
    simp [Tp,adk] at q0 q1 q2
    obtain ⟨x0,e0,_,w0⟩:=DataW.trod_int underlying42 q0;obtain ⟨x1,e1,_,w1⟩:=DataW.trod_int underlying42 q1;obtain ⟨x2,e2,_⟩:=DataW.trod_bool underlying4 q2;simp at e0 e1 e2;subst e0 e1 e2;have c0:=eT 0 (by omega)
    have c1:=eT 1 (by omega)
    have c2:=eT 2 (by omega)
    rw [Go.Deep.add_add] at c0 c1 c2;exact ⟨⟨x0,x1,x2⟩,⟨by simpa using c0,by simpa using c1,by simpa using c2⟩,Bl w0,Bl w1⟩
  have inh:Inhabited ah:=⟨ax⟩;obtain ⟨q,hq⟩:=Go.Deep.choose_lt each;have ln:((List.range n).map q).length=n:=by simp
  have gt:∀ i,i<n->((List.range n).map q).getD i ax=q i:=fun i hi=>by simp [List.getD,hi]
  refine ⟨some a,_,(List.range n).map q,by rw [ln],⟨fun h0=>?_,fun i hi=>?_⟩,by rw [ln];exact hl,(fun e=>by cases e),?_⟩
  ·rw [ln] at h0
   have c0:=(hq 0 h0).1.1;have e0:a.add (0*3)=a:=by simp [Addr.add]
   rw [e0] at c0;have ea:=Ik c0;refine ⟨a.block,a.off,by rw [<-ea],World.block_lt_of_cell? _ _ c0,fun i hi=>?_⟩
   rw [ln] at hi;rw [gt i hi];obtain ⟨⟨a1,a2,a3⟩,_⟩:=hq i hi;rw [ea,Addr.add_lit] at a1 a2 a3;exact ⟨a1,by rw [Nat.add_assoc];exact a2,by rw [Nat.add_assoc];exact a3⟩
  ·rw [ln] at hi
   show (((List.range n).map q).getD i ax).ok;rw [gt i hi];exact (hq i hi).2
  ·have:=Tn 3 ((List.range n).map D) fun x hx=>by
    obtain ⟨i,hi,rfl⟩:=List.mem_map.1 hx;have gX:i<n:=List.mem_range.1 hi;obtain ⟨x9,h1,h2⟩:=jW i (by omega)
    obtain ⟨y0,y1,y2,Il,hx,_⟩:=Go.Deep.trod_struct3 underlying75 h2;simp only [Prod.mk.injEq] at hx;exact ⟨_,hx.1,rfl⟩
   rw [ln];simp only [Rows.uptoBulk];simp at this;omega
variable {p:List MemPlace}
theorem adl {enc:TypeId×Value->H} {ao:Option Addr} {n c:Nat} {d:DataW H} (h:DataW.Trod enc prog W 0 (fun _=>true) true 25 (.slice ao n c) d p) :
  ∃ L:List (List ah),L.length=n/\EV W ao L/\(ao=none->n=0/\c=0)/\n<=c/\n+4*aF L<=Rows.uptoBulk d:=by
 obtain ⟨fuel,hf⟩:=h;rcases Go.Deep.open_slice underlying25 hf with ⟨cO,hx⟩ | ⟨a,n',c',m,fu,D,Pl,cO,_,hl,Ts,hm,hx,jW⟩
 ·simp [Value.cells] at cO
  obtain ⟨rfl,rfl,rfl⟩:=cO;exact ⟨[],rfl,⟨fun h0=>by simp at h0⟩,fun _=>⟨rfl,rfl⟩,Nat.le_refl _,by simp [aF]⟩
 ·simp [Value.cells] at cO
  obtain ⟨rfl,rfl,rfl⟩:=cO;simp only [Prod.mk.injEq] at hx;simp only [if_true] at hm;subst hm;have each:∀ i,i<n->∃ q:Option Addr×Nat×List ah,W.cell? (a.add i)=some (.slice q.1 q.2.2.length q.2.1)/\EL W q.1 q.2.2/\q.2.2.length<=q.2.1/\(q.1=none->q.2.2.length=0/\q.2.1=0)/\1+4*q.2.2.length<=Rows.uptoBulk (D i):=by
   intro i hi;obtain ⟨x9,h1,h2⟩:=jW i (by omega)
   rw [Tq,Nat.mul_one] at h1;obtain ⟨bo,c',l,rfl,k1,k2,k3,k4⟩:=Tr h2;obtain ⟨_,_,eT⟩:=World.cells?_some h1;have c0:=eT 0 (by omega)
   rw [Go.Deep.add_add] at c0;exact ⟨(bo,c',l),by simpa using c0,k1,k2,k3,k4⟩
  obtain ⟨q,hq⟩:=Go.Deep.choose_lt each;have ln:((List.range n).map fun i=>(q i).2.2).length=n:=by simp
  have gt:∀ i,i<n->((List.range n).map fun i=>(q i).2.2).getD i []=(q i).2.2:=fun i hi=>by simp [List.getD,hi]
  refine ⟨(List.range n).map fun i=>(q i).2.2,ln,⟨fun h0=>?_⟩,(fun e=>by cases e),hl,?_⟩
  ·rw [ln] at h0
   have c0:=(hq 0 h0).1;have e0:a.add 0=a:=by simp [Addr.add]
   rw [e0] at c0;have ea:=Ik c0;refine ⟨a.block,a.off,by rw [<-ea],World.block_lt_of_cell? _ _ c0,fun i hi=>?_⟩
   rw [ln] at hi;rw [gt i hi];obtain ⟨a1,a2,a3,a4,_⟩:=hq i hi;rw [ea,Addr.add_lit] at a1;exact ⟨(q i).1,(q i).2.1,a1,a3,a2,a4⟩
  ·have:=To ((List.range n).map D) ((List.range n).map fun i=>(q i).2.2) (by simp) fun i hi=>by
    rw [ln] at hi;rw [gt i hi,show ((List.range n).map D).getD i .nil=D i by simp [List.getD,hi]]
    exact (hq i hi).2.2.2.2
   rw [hx.1];simp only [Rows.uptoBulk];rw [ln] at this;omega
theorem Im {x:Int} (h:(Lit.int .i64 x).wf=true):-9223372036854775808<=x/\x<9223372036854775808:=by
 simp [Lit.wf,IntKind.min,IntKind.max,IntKind.signed,IntKind.bits] at h
 exact ⟨by omega,by omega⟩
theorem Io:prog.cellsOf 3=1:=by kernel_rfl
theorem adm:prog.cellsOf 44=3:=by kernel_rfl
theorem adn {enc:TypeId×Value->H} {ao:Option Addr} {n c:Nat} {d:DataW H} (h:DataW.Trod enc prog W 0 (fun _=>true) true 28 (.slice ao n c) d p) :
  ∃ l:List (Int×Int×Int),l.length=n/\sX W ao l/\(ao=none->n=0/\c=0)/\n<=c/\1+n<=Rows.uptoBulk d:=by
 obtain ⟨fuel,hf⟩:=h;rcases Go.Deep.open_slice underlying28 hf with ⟨cO,hx⟩ | ⟨a,agc,fJ,m,fu,D,Pl,cO,_,hl,Ts,hm,hx,jW⟩
 ·simp [Value.cells] at cO
  obtain ⟨rfl,rfl,rfl⟩:=cO;simp only [Prod.mk.injEq] at hx;exact ⟨[],rfl,⟨fun h0=>by simp at h0,fun x hx=>by cases hx⟩,fun _=>⟨rfl,rfl⟩,Nat.le_refl _,by rw [hx.1];simp [Rows.uptoBulk]⟩
 ·simp [Value.cells] at cO
  obtain ⟨rfl,rfl,rfl⟩:=cO;simp only [Prod.mk.injEq] at hx;simp only [if_true] at hm;subst hm;have each:∀ i,i<n->∃ q:Int×Int×Int,W.cell? (a.add (i*3))=some (.int .i64 q.1)/\W.cell? (a.add (i*3+1))=some (.int .u64 q.2.1)/\W.cell? (a.add (i*3+2))=some (.int .u64 q.2.2)/\(-9223372036854775808<=q.1/\q.1<9223372036854775808)/\(0<=q.2.1/\q.2.1<18446744073709551616)/\0<=q.2.2/\q.2.2<18446744073709551616:=by
   intro i hi;obtain ⟨x9,h1,h2⟩:=jW i (by omega)
   rw [adm] at h1;obtain ⟨_,hlen,eT⟩:=World.cells?_some h1;obtain ⟨y0,y1,y2,Il,_,_,r0,r1,r2⟩:=Go.Deep.trod_struct3 underlying44 h2
   match x9,hlen with
   | [u0,u1,u2],_ =>
    simp [Io,Tp] at r0 r1 r2
    obtain ⟨x0,e0,_,w0⟩:=DataW.trod_int underlying3 r0;obtain ⟨x1,e1,_,w1⟩:=DataW.trod_int underlying42 r1;obtain ⟨x2,e2,_,w2⟩:=DataW.trod_int underlying42 r2;simp at e0 e1 e2;subst e0 e1 e2;have c0:=eT 0 (by omega)
    have c1:=eT 1 (by omega)
    have c2:=eT 2 (by omega)
    rw [Go.Deep.add_add] at c0 c1 c2;exact ⟨(x0,x1,x2),by simpa using c0,by simpa using c1,by simpa using c2,Im w0,Bl w1,Bl w2⟩
  have inh:Inhabited (Int×Int×Int):=⟨(0,0,0)⟩;obtain ⟨q,hq⟩:=Go.Deep.choose_lt each;have ln:((List.range n).map q).length=n:=by simp
  refine ⟨(List.range n).map q,ln,⟨fun h0=>?_,fun x hx=>?_⟩,(fun e=>by cases e),hl,?_⟩
  ·rw [ln] at h0
   have c0:=(hq 0 h0).1;have e0:a.add (0*3)=a:=by simp [Addr.add]
   rw [e0] at c0;have ea:=Ik c0;refine ⟨a.block,a.off,by rw [<-ea],World.block_lt_of_cell? _ _ c0,fun i x hx=>?_⟩
   have hi:i<n:=by have:=(List.getElem?_eq_some_iff.1 hx).1;omega
   have ex:x=q i:=by simpa [hi] using hx.symm
   subst ex;obtain ⟨a1,a2,a3,_⟩:=hq i hi;rw [ea,Addr.add_lit] at a1 a2 a3;exact ⟨a1,by rw [Nat.add_assoc];exact a2,by rw [Nat.add_assoc];exact a3⟩
  ·obtain ⟨i,hi,rfl⟩:=List.mem_map.1 hx
   exact (hq i (List.mem_range.1 hi)).2.2.2
  ·have:=Tm ((List.range n).map D)
   rw [hx.1];simp only [Rows.uptoBulk];simp at this;omega
theorem ado {α:Type} {cs:Array α} (h:cs.size=6):∃ c0 c1 c2 c3 c4 c5,cs=#[c0,c1,c2,c3,c4,c5]:=by
 obtain ⟨l⟩:=cs
 match l,h with
 | [c0,c1,c2,c3,c4,c5],_=>exact ⟨c0,c1,c2,c3,c4,c5,rfl⟩
theorem adp:prog.cellsOf 27=6:=by kernel_rfl
theorem adq:prog.cellsOf 23=3:=by kernel_rfl
theorem adr:prog.cellsOf 25=1:=by kernel_rfl
theorem ads {enc:TypeId×Value->H} {r:Reach} {b0:Nat} {v:Value} {d:DataW H} (hv:Value.okWide prog W r b0 27 v) (h:DataW.Trod enc prog W 0 (fun _=>true) true 27 v d p) :
  ∃ (eps buf keys se:Int) (bo ro:Option Addr) (c m:Nat) (b:List ah) (L:List (List ah)),v=.agg #[.int .i64 eps,.int .i64 buf,.int .i64 keys,.slice bo b.length c,.slice ro L.length m,.int .i64 se]/\(-9223372036854775808<=eps/\eps<9223372036854775808)/\(-9223372036854775808<=se/\se<9223372036854775808)/\EL W bo b/\b.length<=c/\(bo=none->b.length=0/\c=0)/\EV W ro L/\4*b.length+L.length+4*aF L<=Rows.uptoBulk d:=by
 obtain ⟨cs,rfl,cU⟩:=okWide_struct underlying27 hv;obtain ⟨c0,c1,c2,c3,c4,c5,rfl⟩:=ado (cU.trans adp);obtain ⟨fuel,hf⟩:=h;obtain ⟨xs,n',_,hx,hl,hlen,hh⟩:=DataW.trod_struct underlying27 hf
 match xs,hlen with
 | [y0,y1,y2,y3],_ =>
  have q0:=hh 0 _ rfl;have q1:=hh 1 _ rfl;have q2:=hh 2 _ rfl;have q3:=hh 3 _ rfl;simp [Value.cells,adq,Tq,adr,Io] at q0 q1 q2 q3;obtain ⟨z0,z1,z2,Il,_,_,r0,r1,r2⟩:=Go.Deep.trod_struct3 underlying23 q0;simp [Io] at r0 r1 r2;obtain ⟨eps,e0,_,w0⟩:=DataW.trod_int underlying3 r0;obtain ⟨buf,e1,_,w1⟩:=DataW.trod_int underlying3 r1;obtain ⟨keys,e2,_,w2⟩:=DataW.trod_int underlying3 r2;obtain ⟨se,e5,_,w5⟩:=DataW.trod_int underlying3 q3;obtain ⟨bo,c,b,e3,k1,k2,k3,k4⟩:=Tr q1;have k0:∃ ao n c,c4=.slice ao n c:=by
   rcases Go.Deep.open_slice underlying25 q2 with ⟨e,_⟩ | ⟨a,n,c,m,fu,D,Pl,e,_⟩
   ·simp at e;exact ⟨_,_,_,e⟩
   ·simp at e;exact ⟨_,_,_,e⟩
  obtain ⟨ro,n,m,rfl⟩:=k0;obtain ⟨L,j0,j1,_,_,j4⟩:=adl (d:=y2.1) (p:=y2.2) (ao:=ro) (n:=n) (c:=m) ⟨_,by simpa [Value.cells] using q2⟩
  subst j0;simp at e0 e1 e2 e3 e5;subst e0 e1 e2 e3 e5;simp only [Prod.mk.injEq] at hx;refine ⟨eps,buf,keys,se,bo,ro,c,m,b,L,rfl,Im w0,Im w5,k1,k2,k3,j1,?_⟩;rw [hx.1];simp only [Rows.uptoBulk,List.map_cons,List.map_nil,Rows.uptoBulkAll];omega
end Go.Proofs.YtcboobmfnmgldaaGreat
