/- What comes in, opened: what the statements of layer 12 are handed. -/
import Derived.Lib.SmallJoins
import Derived.OpenShut
import Derived.Test.YtinefkljjnepjabGreatRows
import Derived.Test.YtinefkljjnepjabGreatTVBuild
import Derived.Test.YtinefkljjnepjabGreatTPE3
import Derived.Test.YtinefkljjnepjabGreatTJGood
namespace Go.Proofs.YtinefkljjnepjabGreat
open Go.ChangeShapes Go.WideShapes Go.ChangeAt Go.RowKit Go.Joins
set_option linter.unusedVariables false
theorem cells_ug:Tryz.prog.cellsOf 114=5:=by kernel_rfl
theorem cells_ugs:Tryz.prog.cellsOf 112=1:=by kernel_rfl
theorem cells_made:Tryz.prog.cellsOf 25=4:=by kernel_rfl
theorem cells_u9:Tryz.prog.cellsOf 37=1:=by kernel_rfl
theorem cells_i9:Tryz.prog.cellsOf 3=1:=by kernel_rfl
theorem cells_b9:Tryz.prog.cellsOf 4=1:=by kernel_rfl
theorem cells_ks9:Tryz.prog.cellsOf 22=1:=by kernel_rfl
theorem cells_vs9:Tryz.prog.cellsOf 23=1:=by kernel_rfl
theorem i64_in9 {x:Int} (h:(Lit.int .i64 x).wf=true):-9223372036854775808≤x∧x<9223372036854775808:=by
 simp [Lit.wf,IntKind.min,IntKind.max,IntKind.signed,IntKind.bits] at h
 exact ⟨by omega,by omega⟩
theorem u64_in9 {x:Int} (h:(Lit.int .u64 x).wf=true):0≤x∧x<18446744073709551616:=by
 simp [Lit.wf,IntKind.min,IntKind.max,IntKind.signed,IntKind.bits] at h
 exact ⟨by omega,by omega⟩
theorem spot_none9 {w:World} {a:Addr} {v:Value} (h:w.cell? a=some v):a=⟨a.block,a.off,none⟩:=by
 obtain ⟨b,o,s⟩:=a
 cases s with
 | none=>rfl
 | some s=>unfold World.cell? at h;split at h<;>simp at h
set_option maxRecDepth 10000 in
theorem open_useg {H:Type} {enc:TypeId×Value→H} {W:World} {fuel:Nat} {cs:List Value} {y:DataW H×List MemPlace} (hf:DataW.trod enc Tryz.prog W 0 (fun _=>true) true fuel 112 cs=some y) :
  ∃ (ao:Option Addr) (c:Nat) (l:List Sg),cs=[.slice ao l.length c]∧UG W ao l∧l.length≤c∧((y.1=.nil∧l.length=0)∨∃ es sp,y.1=.slice es sp∧es.length+sp.length=c):=by
 rcases Go.Deep.open_slice Tryz.underlying112 hf with ⟨rfl,rfl⟩ | ⟨a,n,c,m,fu,D,Pl,rfl,_,hl,hmx,hm,rfl,hel⟩
 ·exact ⟨none,0,[],rfl,⟨fun h0=>by simp at h0,fun i hi=>by simp at hi⟩,Nat.le_refl _, .inl ⟨rfl,rfl⟩⟩
 ·simp only [if_true] at hm
  subst hm
  have each:∀ i,i<n→∃ s:Sg,(W.cell? (a.add (i*5))=some (.int .u64 s.k)∧W.cell? (a.add (i*5+1))=some (.int .u64 (s.sl:Int))∧W.cell? (a.add (i*5+2))=some (.int .u64 (s.ic:Int))∧W.cell? (a.add (i*5+3))=some (.int .i64 s.fr)∧W.cell? (a.add (i*5+4))=some (.int .i64 s.te))∧s.ok:=by
   intro i hi
   obtain ⟨cs',h1,h2⟩:=hel i (by omega)
   rw [cells_ug] at h1
   obtain ⟨_,hlen,hcc⟩:=World.cells?_some h1
   obtain ⟨xs,fu',_,hx,_,hxl,hh⟩:=DataW.trod_struct Tryz.underlying114 h2
   match cs',hlen,xs,hxl with
   | [u0,u1,u2,u3,u4],_,[y0,y1,y2,y3,y4],_ =>
    have q0:=hh 0 _ rfl
    have q1:=hh 1 _ rfl
    have q2:=hh 2 _ rfl
    have q3:=hh 3 _ rfl
    have q4:=hh 4 _ rfl
    simp [cells_u9,cells_i9] at q0 q1 q2 q3 q4
    obtain ⟨x0,r0,_,w0⟩:=DataW.trod_int Tryz.underlying37 q0
    obtain ⟨x1,r1,_,w1⟩:=DataW.trod_int Tryz.underlying37 q1
    obtain ⟨x2,r2,_,w2⟩:=DataW.trod_int Tryz.underlying37 q2
    obtain ⟨x3,r3,_,w3⟩:=DataW.trod_int Tryz.underlying3 q3
    obtain ⟨x4,r4,_,w4⟩:=DataW.trod_int Tryz.underlying3 q4
    simp at r0 r1 r2 r3 r4
    subst r0 r1 r2 r3 r4
    have c0:=hcc 0 (by omega)
    have c1:=hcc 1 (by omega)
    have c2:=hcc 2 (by omega)
    have c3:=hcc 3 (by omega)
    have c4:=hcc 4 (by omega)
    rw [Go.Deep.add_add] at c0 c1 c2 c3 c4
    obtain ⟨n1,hn1⟩:∃ n1:Nat,x1=(n1:Int):=⟨x1.toNat,by have:=(u64_in9 w1).1;omega⟩
    obtain ⟨n2,hn2⟩:∃ n2:Nat,x2=(n2:Int):=⟨x2.toNat,by have:=(u64_in9 w2).1;omega⟩
    subst hn1 hn2
    exact ⟨⟨x0,n1,n2,x3,x4⟩,⟨by simpa using c0,by simpa using c1,by simpa using c2,by simpa using c3,by simpa using c4⟩,⟨(u64_in9 w0).1,(u64_in9 w0).2,by have:=(u64_in9 w1).2;show n1<_;omega,by have:=(u64_in9 w2).2;show n2<_;omega,(i64_in9 w3).1,(i64_in9 w3).2,(i64_in9 w4).1,(i64_in9 w4).2⟩⟩
  have inh:Inhabited Sg:=⟨sg0⟩
  obtain ⟨q,hq⟩:=Go.Deep.choose_lt each
  have ln:((List.range n).map q).length=n:=by simp
  have gt:∀ i,i<n→((List.range n).map q).getD i sg0=q i:=fun i hi=>by simp [List.getD,hi]
  refine ⟨some a,_,(List.range n).map q,by rw [ln],⟨fun h0=>?_,fun i hi=>?_⟩,by rw [ln];exact hl, .inr ⟨_,_,rfl,by simp;omega⟩⟩
  ·rw [ln] at h0
   have c0:=(hq 0 h0).1.1
   have e0:a.add (0*5)=a:=by simp [Addr.add]
   rw [e0] at c0
   have ea:=spot_none9 c0
   refine ⟨a.block,a.off,by rw [←ea],World.block_lt_of_cell? _ _ c0,fun i hi=>?_⟩
   rw [ln] at hi
   rw [gt i hi]
   obtain ⟨⟨a1,a2,a3,a4,a5⟩,_⟩:=hq i hi
   rw [ea,Addr.add_lit] at a1 a2 a3 a4 a5
   exact ⟨a1,by rw [Nat.add_assoc];exact a2,by rw [Nat.add_assoc];exact a3,by rw [Nat.add_assoc];exact a4,by rw [Nat.add_assoc];exact a5⟩
  ·rw [ln] at hi
   rw [gt i hi]
   exact (hq i hi).2
set_option maxRecDepth 10000 in
theorem open_ulevels {H:Type} {enc:TypeId×Value→H} {W:World} {fuel:Nat} {cs:List Value} {y:DataW H×List MemPlace} (hf:DataW.trod enc Tryz.prog W 0 (fun _=>true) true fuel 23 cs=some y) :
  ∃ (ao:Option Addr) (c:Nat) (L:List (List Sg)),cs=[.slice ao L.length c]∧UV W ao L∧L.length≤c∧((y.1=.nil∧L.length=0)∨∃ es sp,y.1=.slice es sp∧es.length+sp.length=c∧∀ i,i<L.length→∃ di∈es,(di=.nil∧(L.getD i []).length=0)∨∃ es' sp',di=.slice es' sp'∧(L.getD i []).length≤es'.length+sp'.length):=by
 rcases Go.Deep.open_slice Tryz.underlying23 hf with ⟨rfl,rfl⟩ | ⟨a,n,c,m,fu,D,Pl,rfl,_,hl,hmx,hm,rfl,hel⟩
 ·exact ⟨none,0,[],rfl,⟨fun h0=>by simp at h0⟩,Nat.le_refl _, .inl ⟨rfl,rfl⟩⟩
 ·simp only [if_true] at hm
  subst hm
  have each:∀ i,i<n→∃ q:Option Addr×Nat×List Sg,W.cell? (a.add i)=some (.slice q.1 q.2.2.length q.2.1)∧UG W q.1 q.2.2∧q.2.2.length≤q.2.1∧((D i=.nil∧q.2.2.length=0)∨∃ es sp,D i=.slice es sp∧es.length+sp.length=q.2.1):=by
   intro i hi
   obtain ⟨cs',h1,h2⟩:=hel i (by omega)
   rw [cells_ugs,Nat.mul_one] at h1
   obtain ⟨bo,c',l,rfl,k1,k3,k4⟩:=open_useg h2
   obtain ⟨_,_,hcc⟩:=World.cells?_some h1
   have c0:=hcc 0 (by omega)
   rw [Go.Deep.add_add] at c0
   exact ⟨(bo,c',l),by simpa using c0,k1,k3,k4⟩
  obtain ⟨q,hq⟩:=Go.Deep.choose_lt each
  have ln:((List.range n).map fun i=>(q i).2.2).length=n:=by simp
  have gt:∀ i,i<n→((List.range n).map fun i=>(q i).2.2).getD i []=(q i).2.2:=fun i hi=>by simp [List.getD,hi]
  refine ⟨some a,_,(List.range n).map fun i=>(q i).2.2,by rw [ln],⟨fun h0=>?_⟩,by rw [ln];exact hl, .inr ⟨_,_,rfl,by simp;omega,fun i hi=>⟨D i,by rw [ln] at hi;simp;exact ⟨i,hi,rfl⟩,?_⟩⟩⟩
  ·rw [ln] at h0
   have c0:=(hq 0 h0).1
   have e0:a.add 0=a:=by simp [Addr.add]
   rw [e0] at c0
   have ea:=spot_none9 c0
   refine ⟨a.block,a.off,by rw [←ea],World.block_lt_of_cell? _ _ c0,fun i hi=>?_⟩
   rw [ln] at hi
   rw [gt i hi]
   obtain ⟨a1,a2,a4,_⟩:=hq i hi
   rw [ea,Addr.add_lit] at a1
   exact ⟨(q i).1,(q i).2.1,a1,a4,a2⟩
  ·rw [ln] at hi
   rw [gt i hi]
   obtain ⟨_,_,a4,a5⟩:=hq i hi
   rcases a5 with ⟨e1,e2⟩ | ⟨es,sp,e1,e2⟩
   ·exact .inl ⟨e1,e2⟩
   ·exact .inr ⟨es,sp,e1,by omega⟩
theorem array4 {α:Type} {cs:Array α} (h:cs.size=4):∃ c0 c1 c2 c3,cs=#[c0,c1,c2,c3]:=by
 obtain ⟨l⟩:=cs
 match l,h with
 | [c0,c1,c2,c3],_=>exact ⟨c0,c1,c2,c3,rfl⟩
set_option maxRecDepth 20000 in
theorem open_made12 {H:Type} {enc:TypeId×Value→H} {W:World} {r:Reach} {b0:Nat} {v:Value} {d:DataW H} {p:List MemPlace} (hv:Value.okWide Tryz.prog W r b0 25 v) (h:DataW.Trod enc Tryz.prog W 0 (fun _=>true) true 25 v d p) :
  ∃ (ao:Option Addr) (n cp:Nat) (eps:Int) (own:Bool) (uo:Option Addr) (uc:Nat) (U:List (List Sg)) (kk xx:Nat→Int) (gg:Nat→Bool),v=madeV ao n cp eps own uo U.length uc∧ES W ao n kk xx gg∧(ao=none→n=0∧cp=0)∧n≤cp∧(-9223372036854775808≤eps∧eps<9223372036854775808)∧UV W uo U∧U.length≤uc∧∃ d0 d1 d2 d3,d=.agg [d0,d1,d2,d3]∧((d0=.nil∧n=0)∨∃ es sp,d0=.slice es sp∧es.length+sp.length=cp)∧((d3=.nil∧U.length=0)∨∃ es sp,d3=.slice es sp∧es.length+sp.length=uc∧∀ i,i<U.length→∃ di∈es,(di=.nil∧(U.getD i []).length=0)∨∃ es' sp',di=.slice es' sp'∧(U.getD i []).length≤es'.length+sp'.length):=by
 obtain ⟨cs,rfl,hsz⟩:=okWide_struct Tryz.underlying25 hv
 obtain ⟨c0,c1,c2,c3,rfl⟩:=array4 (hsz.trans cells_made)
 obtain ⟨fuel,hf⟩:=h
 obtain ⟨xs,n',_,hx,hl,hlen,hh⟩:=DataW.trod_struct Tryz.underlying25 hf
 match xs,hlen with
 | [y0,y1,y2,y3],_ =>
  have q0:=hh 0 _ rfl
  have q1:=hh 1 _ rfl
  have q2:=hh 2 _ rfl
  have q3:=hh 3 _ rfl
  simp [Value.cells,cells_i9,cells_b9,cells_ks9,cells_vs9] at q0 q1 q2 q3
  obtain ⟨x1,e1,f1,w1⟩:=DataW.trod_int Tryz.underlying3 q1
  obtain ⟨x2,e2,f2⟩:=DataW.trod_bool Tryz.underlying4 q2
  obtain ⟨uo,uc,U,e3,hU,hUc,hd3⟩:=open_ulevels q3
  have k0:∃ ao n c,c0=.slice ao n c:=by
   rcases Go.Deep.open_slice Tryz.underlying22 q0 with ⟨e,_⟩ | ⟨a,n,c,m,fu,D,Pl,e,_⟩
   ·simp at e;exact ⟨_,_,_,e⟩
   ·simp at e;exact ⟨_,_,_,e⟩
  obtain ⟨ao,n,cp,rfl⟩:=k0
  obtain ⟨kk,xx,gg,hk,hz,hle,hd0⟩:=open_entries (d:=y0.1) (p:=y0.2) (ao:=ao) (n:=n) (c:=cp) ⟨_,by simpa [Value.cells] using q0⟩
  simp at e1 e2 e3
  subst e1 e2 e3
  simp only [Prod.mk.injEq] at hx
  exact ⟨ao,n,cp,x1,x2,uo,uc,U,kk,xx,gg,rfl,hk,hz,hle,i64_in9 w1,hU,hUc,y0.1,y1.1,y2.1,y3.1,by simpa using hx.1,hd0,hd3⟩
end Go.Proofs.YtinefkljjnepjabGreat
namespace Go.Proofs.YtinefkljjnepjabGreat
open Go.ChangeShapes Go.WideShapes Go.ChangeAt Go.RowKit Go.Joins
set_option linter.unusedVariables false
theorem heft_one {H:Type} (d:DataW H):1≤Rows.uptoBulk d:=by
 cases d with
 | lit l=>cases l<;>simp [Rows.uptoBulk]
 | nil=>simp [Rows.uptoBulk]
 | ptr d=>simp [Rows.uptoBulk]
 | slice elems spare=>simp [Rows.uptoBulk]
 | agg parts=>simp [Rows.uptoBulk]
 | iface t d=>simp [Rows.uptoBulk]
 | map entries=>simp [Rows.uptoBulk]
 | held h=>simp [Rows.uptoBulk]
theorem heft_many {H:Type} (l:List (DataW H)):l.length≤Rows.uptoBulkAll l:=by
 induction l with
 | nil=>simp [Rows.uptoBulkAll]
 | cons x r ih=>have:=heft_one x;simp only [Rows.uptoBulkAll,List.length_cons];omega
theorem heft_aggs {H:Type} (c:Nat):∀ l:List (DataW H),(∀ x∈l,∃ ps,x=.agg ps∧ps.length=c)→(c+1)*l.length≤Rows.uptoBulkAll l
 | [],_=>by simp [Rows.uptoBulkAll]
 | x::r,h=>by
  have ih:=heft_aggs c r fun y hy=>h y (List.mem_cons_of_mem _ hy)
  obtain ⟨ps,rfl,e⟩:=h x (List.mem_cons_self ..)
  have:=heft_many ps
  simp only [Rows.uptoBulkAll,Rows.uptoBulk,List.length_cons,Nat.mul_add,Nat.mul_one]
  omega
theorem heft_levels {H:Type}:∀ (es:List (DataW H)) (U:List (List Sg)),es.length=U.length→(∀ i,i<U.length→1+6*(U.getD i []).length≤Rows.uptoBulk (es.getD i .nil))→U.length+6*total U≤Rows.uptoBulkAll es
 | [],[],_,_=>by simp [Rows.uptoBulkAll,total]
 | [],_::_,e,_=>by simp at e
 | _::_,[],e,_=>by simp at e
 | x::r,l::U,e,h=>by
  have ih:=heft_levels r U (by simpa using e) fun i hi=>by simpa using h (i+1) (by simpa using hi)
  have h0:1+6*l.length≤Rows.uptoBulk x:=h 0 (by simp)
  have et:total (l::U)=l.length+total U:=by simp [total]
  simp only [Rows.uptoBulkAll,List.length_cons,et]
  omega
section
variable {H:Type} {enc:TypeId×Value→H} {W:World} {fuel:Nat} {y:DataW H×List MemPlace}
theorem heavy_entries {ao:Option Addr} {n c:Nat} (hf:DataW.trod enc Tryz.prog W 0 (fun _=>true) true fuel 22 [.slice ao n c]=some y):4*n≤Rows.uptoBulk y.1:=by
 rcases Go.Deep.open_slice Tryz.underlying22 hf with ⟨e,rfl⟩ | ⟨a,n',c',m,fu,D,Pl,e,_,hl,hmx,hm,rfl,hel⟩
 ·simp at e
  obtain ⟨_,rfl,_⟩:=e
  omega
 ·simp at e
  obtain ⟨_,rfl,rfl⟩:=e
  simp only [if_true] at hm
  subst hm
  have:=heft_aggs 3 ((List.range n).map D) fun x hx=>by
   obtain ⟨i,hi,rfl⟩:=List.mem_map.1 hx
   have hi':i<n:=List.mem_range.1 hi
   obtain ⟨cs',h1,h2⟩:=hel i (by omega)
   obtain ⟨y0,y1,y2,fu',hx,_⟩:=Go.Deep.trod_struct3 Tryz.underlying39 h2
   simp only [Prod.mk.injEq] at hx
   exact ⟨_,hx.1,rfl⟩
  simp only [Rows.uptoBulk]
  simp at this
  omega
theorem heavy_useg {ao:Option Addr} {n c:Nat} (hf:DataW.trod enc Tryz.prog W 0 (fun _=>true) true fuel 112 [.slice ao n c]=some y):1+6*n≤Rows.uptoBulk y.1:=by
 rcases Go.Deep.open_slice Tryz.underlying112 hf with ⟨e,rfl⟩ | ⟨a,n',c',m,fu,D,Pl,e,_,hl,hmx,hm,rfl,hel⟩
 ·simp at e
  obtain ⟨_,rfl,_⟩:=e
  simp [Rows.uptoBulk]
 ·simp at e
  obtain ⟨_,rfl,rfl⟩:=e
  simp only [if_true] at hm
  subst hm
  have:=heft_aggs 5 ((List.range n).map D) fun x hx=>by
   obtain ⟨i,hi,rfl⟩:=List.mem_map.1 hx
   have hi':i<n:=List.mem_range.1 hi
   obtain ⟨cs',h1,h2⟩:=hel i (by omega)
   obtain ⟨xs,fu',_,hx,_,hxl,_⟩:=DataW.trod_struct Tryz.underlying114 h2
   simp only [Prod.mk.injEq] at hx
   exact ⟨_,hx.1,by rw [List.length_map];simpa using hxl⟩
  simp only [Rows.uptoBulk]
  simp at this
  omega
theorem heavy_ulevels {uo:Option Addr} {uc:Nat} {U:List (List Sg)} (hf:DataW.trod enc Tryz.prog W 0 (fun _=>true) true fuel 23 [.slice uo U.length uc]=some y) (hU:UV W uo U):U.length+6*total U≤Rows.uptoBulk y.1:=by
 rcases Go.Deep.open_slice Tryz.underlying23 hf with ⟨e,rfl⟩ | ⟨a,n',c',m,fu,D,Pl,e,_,hl,hmx,hm,rfl,hel⟩
 ·simp at e
  obtain ⟨_,e,_⟩:=e
  subst e
  simp [total]
 ·simp at e
  obtain ⟨rfl,rfl,rfl⟩:=e
  simp only [if_true] at hm
  subst hm
  have:=heft_levels ((List.range U.length).map D) U (by simp) fun i hi=>by
   obtain ⟨b,off,ea,_,hc⟩:=hU.cells (by omega)
   obtain ⟨so,sc,q1,_⟩:=hc i hi
   obtain ⟨cs',h1,h2⟩:=hel i (by omega)
   rw [cells_ugs,Nat.mul_one] at h1
   obtain ⟨_,hlen,hcc⟩:=World.cells?_some h1
   have c0:=hcc 0 (by omega)
   rw [Go.Deep.add_add] at c0
   have ea':a=⟨b,off,none⟩:=by simpa using ea
   rw [ea',Addr.add_lit,Nat.add_zero,q1] at c0
   match cs',hlen with
   | [u],_ =>
    have e:u=.slice so (U.getD i []).length sc:=by simpa using c0.symm
    subst e
    have:=heavy_useg h2
    have eD:((List.range U.length).map D).getD i .nil=D i:=by simp [List.getD,hi]
    rw [eD]
    exact this
  simp only [Rows.uptoBulk]
  omega
theorem heavy_made {d:DataW H} {p:List MemPlace} {ao:Option Addr} {n cp:Nat} {eps:Int} {own:Bool} {uo:Option Addr} {uc:Nat} {U:List (List Sg)} (h:DataW.Trod enc Tryz.prog W 0 (fun _=>true) true 25 (madeV ao n cp eps own uo U.length uc) d p) (hU:UV W uo U):4*n+U.length+6*total U≤Rows.uptoBulk d:=by
 obtain ⟨fuel,hf⟩:=h
 obtain ⟨xs,n',_,hx,hl,hlen,hh⟩:=DataW.trod_struct Tryz.underlying25 hf
 match xs,hlen with
 | [y0,y1,y2,y3],_ =>
  have q0:=hh 0 _ rfl
  have q3:=hh 3 _ rfl
  simp [Value.cells,cells_ks9,cells_vs9] at q0 q3
  have a:=heavy_entries q0
  have b:=heavy_ulevels q3 hU
  simp only [Prod.mk.injEq] at hx
  rw [hx.1]
  simp only [List.map,Rows.uptoBulk,Rows.uptoBulkAll]
  omega
end
end Go.Proofs.YtinefkljjnepjabGreat
