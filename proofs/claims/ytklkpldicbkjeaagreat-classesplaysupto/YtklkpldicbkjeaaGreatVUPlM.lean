/- ClassesPlays: which of some; steps as they are handed in; some classes, each with the document's, apart from one another. -/
import Derived.Test.YtklkpldicbkjeaaGreatVUDoc3
set_option linter.unusedVariables false
set_option maxRecDepth 10000
open Go.Proofs.Tryz
namespace Go.Proofs.YtklkpldicbkjeaaGreat
open Go.RowKit Go.Joins Go.ChangeAt Go.WideShapes Go.ChangeShapes
def kI (c:Int) (n:Nat):Nat:=((if c<0 then -(c+1) else c)%(n:Int)).toNat
theorem Rd (c:Int) {n:Nat} (h:0<n):kI c n<n:=by
 unfold kI;have:=Int.emod_lt_of_pos (if c<0 then -(c+1) else c) (show (0:Int)<n by omega)
 have:=Int.emod_nonneg (if c<0 then -(c+1) else c) (show (n:Int)≠0 by omega)
 omega
theorem Re (c:Int) (n:Nat) (h0:-9223372036854775808<=c) (h1:c<9223372036854775808) (hn:0<n) (hm:n<=3) (w:World) :
  Calls prog 8 #[.int .i64 c,.int .i64 (n:Int)] w fun e w'=>e=.returned (.int .i64 (kI c n:Nat))/\w'=w:=by
 have nz:((n:Int) == 0)=false:=by simp;omega
 have nz':¬ (n:Int)=0:=by omega
 by_cases k:c<0
 ·have t1:decide (c<0)=true:=by simpa using k
  have w1:IntKind.i64.wrap (c+1)=c+1:=by rw [IntKind.wrap_i64];omega
  have w2:IntKind.i64.wrap (-(c+1))=-(c+1):=by rw [IntKind.wrap_i64];omega
  have b1:=Int.emod_lt_of_pos (-(c+1)) (show (0:Int)<n by omega)
  have b0:=Int.emod_nonneg (-(c+1)) (show (n:Int)≠0 by omega)
  have w4:Int.tmod (-(c+1)) n=(-(c+1))%n:=Int.tmod_eq_emod_of_nonneg (by omega)
  have w6:IntKind.i64.wrap ((-(c+1))%n)=(-(c+1))%n:=by rw [IntKind.wrap_i64];omega
  have R:((kI c n:Nat):Int)=(-(c+1))%n:=by unfold kI;rw [if_pos k];omega
  rw [R];clear R k b0 b1;go_enter func8,ntmps8;go_wp2_with fail;go_ret;exact ⟨by first | rfl | (simp only [go_sem];rw [w4]) | rw [w4,w6] | simp [go_sem,w4,w6],rfl⟩
 ·have t1:decide (c<0)=false:=by simpa using k
  have b1:=Int.emod_lt_of_pos c (show (0:Int)<n by omega)
  have b0:=Int.emod_nonneg c (show (n:Int)≠0 by omega)
  have w4:Int.tmod c n=c%n:=Int.tmod_eq_emod_of_nonneg (by omega)
  have w6:IntKind.i64.wrap (c%n)=c%n:=by rw [IntKind.wrap_i64];omega
  have R:((kI c n:Nat):Int)=c%n:=by unfold kI;rw [if_neg k];omega
  rw [R];clear R k b0 b1;go_enter func8,ntmps8;go_wp2_with fail;go_ret;exact ⟨by first | rfl | (simp only [go_sem];rw [w4]) | rw [w4,w6] | simp [go_sem,w4,w6],rfl⟩
structure ua where
 kd:Int
 on:Int
 nm:Int
 ky:Int
 l:List ah
def iv:ua:=⟨0,0,0,0,[]⟩
def mT (x:Int):Prop:=-9223372036854775808<=x/\x<9223372036854775808
structure Fz (w:World) (ao:Option Addr) (hs:List ua):Prop where
 cells:0<hs.length->∃ b off,ao=some ⟨b,off,none⟩/\b<w.heap.size/\∀ i,i<hs.length->∃ bo c,w.cell? ⟨b,off+i*5,none⟩=some (.int .i64 (hs.getD i iv).kd)/\w.cell? ⟨b,off+i*5+1,none⟩=some (.int .i64 (hs.getD i iv).on)/\w.cell? ⟨b,off+i*5+2,none⟩=some (.int .i64 (hs.getD i iv).nm)/\w.cell? ⟨b,off+i*5+3,none⟩=some (.int .u64 (hs.getD i iv).ky)/\w.cell? ⟨b,off+i*5+4,none⟩=some (.slice bo (hs.getD i iv).l.length c)/\EL w bo (hs.getD i iv).l/\(hs.getD i iv).l.length<=c/\(bo=none->(hs.getD i iv).l.length=0/\c=0)/\mT (hs.getD i iv).kd/\mT (hs.getD i iv).on/\mT (hs.getD i iv).nm/\0<=(hs.getD i iv).ky/\(hs.getD i iv).ky<18446744073709551616
theorem acn:prog.cellsOf 37=5:=by kernel_rfl
theorem FH {x:Int} (h:(Lit.int .i64 x).wf=true):mT x:=ab9 h
theorem aco {H:Type} {enc:TypeId×Value->H} {W:World} {ao:Option Addr} {n c:Nat} {d:DataW H} {p:List MemPlace} (h:DataW.Trod enc prog W 0 (fun _=>true) true 22 (.slice ao n c) d p) :
  ∃ l:List ua,l.length=n/\Fz W ao l/\(ao=none->n=0/\c=0)/\n<=c/\1+n<=Rows.uptoBulk d:=by
 obtain ⟨fuel,hf⟩:=h;rcases Go.Deep.open_slice underlying22 hf with ⟨dr,hx⟩ | ⟨a,n',c',m,fu,D,Pl,dr,_,hl,hmx,hm,hx,lL⟩
 ·simp [Value.cells] at dr
  obtain ⟨rfl,rfl,rfl⟩:=dr;simp only [Prod.mk.injEq] at hx;exact ⟨[],rfl,⟨fun h0=>by simp at h0⟩,fun _=>⟨rfl,rfl⟩,Nat.le_refl _,by rw [hx.1];simp [Rows.uptoBulk]⟩
 ·simp [Value.cells] at dr
  obtain ⟨rfl,rfl,rfl⟩:=dr;simp only [Prod.mk.injEq] at hx;simp only [if_true] at hm;subst hm;have each:∀ i,i<n->∃ q:(Option Addr×Nat)×ua,W.cell? (a.add (i*5))=some (.int .i64 q.2.kd)/\W.cell? (a.add (i*5+1))=some (.int .i64 q.2.on)/\W.cell? (a.add (i*5+2))=some (.int .i64 q.2.nm)/\W.cell? (a.add (i*5+3))=some (.int .u64 q.2.ky)/\W.cell? (a.add (i*5+4))=some (.slice q.1.1 q.2.l.length q.1.2)/\EL W q.1.1 q.2.l/\q.2.l.length<=q.1.2/\(q.1.1=none->q.2.l.length=0/\q.1.2=0)/\mT q.2.kd/\mT q.2.on/\mT q.2.nm/\0<=q.2.ky/\q.2.ky<18446744073709551616:=by
   intro i hi;obtain ⟨Aj,h1,h2⟩:=lL i (by omega)
   rw [acn] at h1;obtain ⟨_,hlen,gI⟩:=World.cells?_some h1;obtain ⟨xs,QO,_,hx,_,nK,hh⟩:=DataW.trod_struct underlying37 h2
   match Aj,hlen,xs,nK with
   | [u0,u1,u2,u3,u4],_,[y0,y1,y2,y3,y4],_ =>
    have q0:=hh 0 _ rfl;have q1:=hh 1 _ rfl;have q2:=hh 2 _ rfl;have q3:=hh 3 _ rfl;have q4:=hh 4 _ rfl;simp [ab4,ab8,QL] at q0 q1 q2 q3 q4;obtain ⟨x0,e0,_,w0⟩:=DataW.trod_int underlying3 q0;obtain ⟨x1,e1,_,w1⟩:=DataW.trod_int underlying3 q1;obtain ⟨x2,e2,_,w2⟩:=DataW.trod_int underlying3 q2;obtain ⟨x3,e3,_,w3⟩:=DataW.trod_int underlying34 q3;obtain ⟨bo,c',l,e4,k1,k2,k3,k4⟩:=ab6 q4;simp at e0 e1 e2 e3 e4;subst e0 e1 e2 e3 e4;have c0:=gI 0 (by omega)
    have c1:=gI 1 (by omega)
    have c2:=gI 2 (by omega)
    have c3:=gI 3 (by omega)
    have c4:=gI 4 (by omega)
    rw [Go.Deep.add_add] at c0 c1 c2 c3 c4;exact ⟨((bo,c'),⟨x0,x1,x2,x3,l⟩),by simpa using c0,by simpa using c1,by simpa using c2,by simpa using c3,by simpa using c4,k1,k2,k3,FH w0,FH w1,FH w2,Fs w3⟩
  have inh:Inhabited ((Option Addr×Nat)×ua):=⟨((none,0),iv)⟩;obtain ⟨q,hq⟩:=Go.Deep.choose_lt each;have ln:((List.range n).map fun i=>(q i).2).length=n:=by simp
  have gt:∀ i,i<n->((List.range n).map fun i=>(q i).2).getD i iv=(q i).2:=fun i hi=>by simp [List.getD,hi]
  refine ⟨(List.range n).map fun i=>(q i).2,ln,⟨fun h0=>?_⟩,(fun e=>by cases e),hl,?_⟩
  ·rw [ln] at h0
   have c0:=(hq 0 h0).1;have e0:a.add (0*5)=a:=by simp [Addr.add]
   rw [e0] at c0;have ea:=QN c0;refine ⟨a.block,a.off,by rw [<-ea],World.block_lt_of_cell? _ _ c0,fun i hi=>?_⟩
   rw [ln] at hi;rw [gt i hi];obtain ⟨a0,a1,a2,a3,a4,a5⟩:=hq i hi;rw [ea,Addr.add_lit] at a0 a1 a2 a3 a4;exact ⟨(q i).1.1,(q i).1.2,a0,by rw [Nat.add_assoc];exact a1,by rw [Nat.add_assoc];exact a2,by rw [Nat.add_assoc];exact a3,by rw [Nat.add_assoc];exact a4,a5⟩
  ·have:=QJ ((List.range n).map D)
   rw [hx.1];simp only [Rows.uptoBulk];simp at this;omega
structure Pq where
 p:Nat
 px:Nat
 rb:Nat
 rs:List (Option Rn)
 ds:List (Option Rn)
 B:Int
 W:Int
def Pq.cb (q:Pq):List Nat:=[q.p,q.px,q.rb]
def lN (q:Pq):List Value:=[.pointer (some ⟨q.p,0,none⟩),.pointer (some ⟨q.px,0,none⟩)]
abbrev jk (Q:List Pq):List Nat:=Q.flatMap Pq.cb
theorem acp {HR Fo:aV} {HC Rf:World->List (Option Rn)->Int->Int->Prop} {F F':Nat->Prop} {w w1 w2 w3:World} {e e':Ending} {rs aI:List (Option Rn)} {l:List ah} {eps buf B W:Int} (h:dp HR HC F w w1 e rs l eps buf B W) (h':dp Fo Rf F' w2 w3 e' aI l eps buf B W) (al:Al rs aI):e'=e/\∃ (jV FJ:List (Option Rn)) (B1 W1:Int),HC w1 jV B1 W1/\Rf w3 FJ B1 W1/\Al jV FJ/\(∀ r,some r∈jV->some r∈rs\/∀ q,r.S q->w.heap.size<=q)/\(∀ r,some r∈FJ->some r∈aI\/∀ q,r.S q->w2.heap.size<=q)/\tot jV<=tot rs+l.length/\(B<=B1/\B1<=B+1)/\W<=W1/\W1<=W+l.length+tot rs:=by
 have lm:∀ {HR:aV} {w w':World} {rs:List (Option Rn)} {kept:List ah} {rn:Option Rn},mI HR w w' eps kept rn->∀ r,some r∈laid rs rn->some r∈rs\/∀ q,r.S q->w.heap.size<=q:=fun {HR w w' rs kept rn} ld r hr=>by
  unfold laid at hr;rcases List.mem_append.1 hr with q | q
  ·simp at q
  ·rcases List.mem_cons.1 q with q | q
   ·rcases ld with ⟨_,b⟩ | ⟨_,r',b1,_,_,_,b5,_⟩
    ·rw [b] at q;cases q
    ·rw [b1] at q;cases q;exact .inr b5
   ·exact .inl (List.mem_of_mem_drop q)
 obtain ⟨⟨r0,c0,x⟩,_⟩:=h;obtain ⟨⟨r1,c1,y⟩,_⟩:=h';have ze:=c0.one c1;subst ze;rcases x with ⟨a1,a2,a3,_⟩ | ⟨a1,a2,a3,a4,_⟩ | ⟨a1,a2,o,kept,rn,tr,a3,ld,a4⟩<;>rcases y with ⟨b1,b2,b3,_⟩ | ⟨b1,b2,b3,b4,_⟩ | ⟨b1,b2,o',acq,rM,tr',b3,Rg,b4⟩
 ·exact ⟨by rw [a2,b2],rs,aI,B,W,a3,b3,al,fun r hr=>.inl hr,fun r hr=>.inl hr,by omega,by omega,by omega,by omega⟩
 ·exact absurd b1 a1
 ·exact absurd b1 a1
 ·exact absurd a1 b1
 ·exact ⟨by rw [a3,b3],rs,aI,B,W,a4,b4,al,fun r hr=>.inl hr,fun r hr=>.inl hr,by omega,by omega,by omega,by omega⟩
 ·exact absurd b2 a2
 ·exact absurd a1 b1
 ·exact absurd a2 b2
 ·have ek:kept=acq:=(al.takeR tr).one tr'
  subst ek;have t1:=abV tr ld;have t2:=tr.few.1;have t3:=zK rs (freeC rs+1);unfold took at t2;have t4:0<=iK kept/\iK kept<=1:=by unfold iK;split<;>omega
  exact ⟨by rw [a3,b3,al.freeC,al.took],laid rs rn,laid aI rM,_,_,a4,b4,al.laid (ld.al Rg),lm ld,lm Rg,t1,by omega,by omega,by omega⟩
theorem acr {HR:aV} (K:Kp HR) {w v w9 kJ:World} {p:Nat} {S:Nat->Prop} {e:Ending} {rs:List (Option Rn)} {l:List ah} {eps buf B W:Int} (ga:Gw w v) (hp:p<w.heap.size) (pJ:∀ r,some r∈rs->∀ q,r.S q->q<w.heap.size) (h:dp HR (fun w' rs B W=>au HR w' p rs eps buf B W) (fun x=>x=p) v w9 e rs l eps buf B W) (g:Gx S w9 kJ) (hS:∀ q,S q->w.heap.size<=q/\q<v.heap.size):dp HR (fun w' rs B W=>au HR w' p rs eps buf B W) (fun x=>x=p) w kJ e rs l eps buf B W:=by
 obtain ⟨⟨r0,c0,x⟩,gx⟩:=h;have GG:Gx (fun x=>x=p) w kJ:=((ga.gx fun x=>x=p).trans gx (fun q hq=>.inl hq)).trans g (fun q hq=>.inr (hS q hq).1)
 have np:¬ S p:=fun x=>by have:=hS p x;omega
 refine ⟨⟨r0,c0,?_⟩,GG⟩;have so:∀ q,S q->∀ r,some r∈rs->¬ r.S q:=fun q hq r hr x=>by have:=pJ r hr q x;have:=hS q hq;omega
 rcases x with ⟨a1,a2,a3,a4⟩ | ⟨a1,a2,a3,a4,a5⟩ | ⟨a1,a2,o,kept,rn,tr,a3,ld,a4⟩
 ·exact .inl ⟨a1,a2,a3.gx K g np so,Gx.gw (ga.trans a4) g (fun q hq=>(hS q hq).1)⟩
 ·exact .inr (.inl ⟨a1,a2,a3,a4.gx K g np so,Gx.gw (ga.trans a5) g (fun q hq=>(hS q hq).1)⟩)
 ·have gs:=ga.size
  refine .inr (.inr ⟨a1,a2,o,kept,rn,tr,a3,?_,a4.gx K g np fun q hq r hr x=>?_⟩)
  ·rcases ld with y | ⟨b0,r,b1,b2,b3,b4,b5,b6⟩
   ·exact .inl y
   ·exact .inr ⟨b0,r,b1,b2,b3,b4,fun q hq=>by have:=b5 q hq;omega,b6.gx K g (fun q hq x=>by have:=b5 q x;have:=hS q hq;omega)⟩
  ·unfold laid at hr
   rcases List.mem_append.1 hr with z | z
   ·simp at z
   ·rcases List.mem_cons.1 z with z | z
    ·rcases ld with ⟨_,b⟩ | ⟨_,r',b1,_,_,_,b5,_⟩
     ·rw [b] at z;cases z
     ·rw [b1] at z;cases z;have:=b5 q x;have:=hS q hq;omega
    ·exact so q hq r (List.mem_of_mem_drop z) x
theorem kG.top {rs:List (Option Rn)} {t:Nat} {eps buf E:Int} (rK:rs.length=40) (tp:dq rs t) (o:kG eps buf (rs.take t) E):kG eps buf rs E:=by
 have e1:aT (rs.take t)=aT rs:=by
  rw [QA rK tp];unfold aT;rw [List.take_of_length_le (by omega),rK]
  simp
 have e2:(rs.take t).drop 40=rs.drop 40:=by
  rw [List.drop_eq_nil_of_le (by rw [List.length_take];omega),List.drop_eq_nil_of_le (by omega)]
 unfold kG at o ⊢;rw [e1,e2] at o;exact o
structure aP (HR:aV) (w0 wr:World) (ab ac:Nat) (eps buf:Int) (Q:List Pq) (k s:Nat):Prop where
 own:wr.ownsRow w0.heap.size 32 2 (.slice (some ⟨ab,0,none⟩) Q.length ac) Q.length (Q.flatMap lN)
 ok:∀ q∈Q,au HR wr q.p q.rs eps buf q.B q.W/\aG wr q.px q.rb q.ds eps buf q.B q.W/\Al q.rs q.ds
 few:∀ q∈Q,tot q.rs<=s/\(0<=q.B/\q.B<=k)/\0<=q.W/\q.W<=800*(k:Int)
 far:∀ x∈jk Q,w0.heap.size<=x/\x≠ab
 nd:∀ (i j:Nat) (a b:Pq),Q[i]?=some a->Q[j]?=some b->i≠j->∀ x∈a.cb,∀ y∈b.cb,x≠y
 ns:∀ q∈Q,q.p≠q.px/\q.p≠q.rb/\q.px≠q.rb
 rn:∀ q∈Q,∀ r,(some r∈q.rs\/some r∈q.ds)->¬ r.S ab/\∀ x∈jk Q,¬ r.S x
 n1:1<=Q.length
 n3:Q.length<=3
 g0:Gw w0 wr
section
variable {HR:aV} {w0 wr:World} {ab ac:Nat} {eps buf:Int} {Q:List Pq} {k s:Nat}
theorem aP.gw (K:Kp HR) {V:World} (h:aP HR w0 wr ab ac eps buf Q k s) (g:Gw wr V):aP HR w0 V ab ac eps buf Q k s :=
 ⟨oR h.own fun q hq=>g.below.block q (World.ownsRow.lt h.own q hq).2,fun q hq=>⟨(h.ok q hq).1.gw K g,(h.ok q hq).2.1.gw g,(h.ok q hq).2.2⟩,h.few,h.far,h.nd,h.ns,h.rn,h.n1,h.n3,h.g0.trans g⟩
theorem aP.fz (h:aP HR w0 wr ab ac eps buf Q k s) (o:Nat):wr.frozen? ⟨ab,o,none⟩=false:=by
 rcases h.own.2 with ⟨x,_⟩ | ⟨b,cap,cur,e,hb,hh,_⟩
 ·cases x
 ·cases e;exact dR hh
theorem aP.more (h:aP HR w0 wr ab ac eps buf Q k s) {k' s':Nat} (hk:k<=k') (hs:s<=s'):aP HR w0 wr ab ac eps buf Q k' s' :=
 ⟨h.own,h.ok,fun q hq=>by obtain ⟨a,b,c⟩:=h.few q hq;exact ⟨by omega,by omega,by omega⟩,h.far,h.nd,h.ns,h.rn,h.n1,h.n3,h.g0⟩
theorem aP.lt (h:aP HR w0 wr ab ac eps buf Q k s):∀ x∈jk Q,x<wr.heap.size:=fun x hx=>by
 obtain ⟨q,hq,hc⟩:=List.mem_flatMap.1 hx;obtain ⟨a,b,_⟩:=h.ok q hq;unfold Pq.cb at hc;simp only [List.mem_cons,List.not_mem_nil,or_false] at hc;rcases hc with e | e | e
 ·rw [e];exact a.lt
 ·rw [e];exact b.plt
 ·rw [e];exact b.blt
theorem Rh {α:Type} (f:Pq->List α) {n:Nat} {q q':Pq} (hq:Q[n]?=some q) (e:f q'=f q):(Q.set n q').flatMap f=Q.flatMap f:=by
 rw [List.flatMap_def,List.flatMap_def];congr 1;refine List.ext_getElem? fun i=>?_
 rw [List.getElem?_map,List.getElem?_map,List.getElem?_set];split
 ·rename_i hi
  subst hi;have hl:=(List.getElem?_eq_some_iff.1 hq).1;rw [if_pos hl,hq];simp [e]
 ·rfl
theorem dh {q:Pq} (hq:q∈Q) {x:Nat} (hx:x∈q.cb):x∈jk Q:=List.mem_flatMap.2 ⟨q,hq,hx⟩
def mU (Q:List Pq) (ab x:Nat):Prop:=x≠ab/\x ∉ jk Q/\∀ q∈Q,∀ r,(some r∈q.rs\/some r∈q.ds)->¬ r.S x
theorem aP.rl (K:Kp HR) (h:aP HR w0 wr ab ac eps buf Q k s):∀ q∈Q,∀ r,(some r∈q.rs\/some r∈q.ds)->∀ x,r.S x->x<wr.heap.size:=fun q hq r hr x hx=>by
 rcases hr with z | z
 ·exact K.lt ((h.ok q hq).1.runs r z).1.h x hx
 ·exact aR.lt ((h.ok q hq).2.1.runs r z).1.h x hx
theorem aP.off (K:Kp HR) (h:aP HR w0 wr ab ac eps buf Q k s) {x:Nat} (hx:wr.heap.size<=x):mU Q ab x :=
 ⟨fun e=>by have:=(World.ownsRow.lt h.own ab rfl).2;omega,fun e=>by have:=h.lt x e;omega,fun q hq r hr y=>by have:=h.rl K q hq r hr x y;omega⟩
theorem aP.gx (K:Kp HR) {V:World} (h:aP HR w0 wr ab ac eps buf Q k s) {x:Nat} (g:Gx (fun y=>y=x) wr V) (hx:w0.heap.size<=x) (o:mU Q ab x):aP HR w0 V ab ac eps buf Q k s:=by
 have nc:∀ q∈Q,∀ y∈q.cb,y≠x:=fun q hq y hy e=>o.2.1 (by rw [<-e];exact dh hq hy)
 have ip:∀ a:Pq,a.p∈a.cb/\a.px∈a.cb/\a.rb∈a.cb:=fun a=>by unfold Pq.cb;simp
 exact ⟨oR h.own fun q hq=>g.block q (World.ownsRow.lt h.own q hq).2 (fun e=>o.1 (e.symm.trans (show ab=q by simpa [Value.ownBlock] using hq).symm)),fun q hq=>⟨(h.ok q hq).1.gx K g (nc q hq _ (ip q).1) (fun y hy r hr=>by rw [hy];exact o.2.2 q hq r (.inl hr)),(h.ok q hq).2.1.gx g (nc q hq _ (ip q).2.1) (nc q hq _ (ip q).2.2) (fun y hy r hr=>by rw [hy];exact o.2.2 q hq r (.inr hr)),(h.ok q hq).2.2⟩,h.few,h.far,h.nd,h.ns,h.rn,h.n1,h.n3,Gx.gw h.g0 g (fun y hy=>by rw [hy];exact hx)⟩
theorem aP.take (H:cV HR) (h:aP HR w0 wr ab ac eps buf Q k s) {n:Nat} {q:Pq} (hq:Q[n]?=some q) {l:List ah} {u1 u2 u3:World} {e e':Ending} (t1:dp HR (fun w' rs B W=>au HR w' q.p rs eps buf B W) (fun x=>x=q.p) wr u1 e q.rs l eps buf q.B q.W) (g:Gw u1 u2) (t2:dp aR (fun w' rs B W=>aG w' q.px q.rb rs eps buf B W) (fun x=>x=q.px\/x=q.rb) u2 u3 e' q.ds l eps buf q.B q.W) (hl:s+l.length<=400) :
  e'=e/\∃ q':Pq,aP HR w0 u3 ab ac eps buf (Q.set n q') (k+1) (s+l.length)/\(Q.set n q').length=Q.length/\∀ x,x<wr.heap.size->mU Q ab x->mU (Q.set n q') ab x:=by
 have hm:q∈Q:=List.mem_of_getElem? hq;obtain ⟨k1,k2,k3⟩:=h.ok q hm;obtain ⟨ee,jV,pK,B1,W1,zW,da,al1,f1,f2,z1,z2,z3,z4⟩:=acp t1 t2 k3;have g1:=t1.2;have g2:=t2.2;have sz1:=g1.size;have sz2:=g.size;have fl:∀ x∈jk Q,x<wr.heap.size:=h.lt;have tJ:=World.ownsRow.lt h.own ab rfl;have ip:q.p∈q.cb:=by unfold Pq.cb;simp
 have ix:q.px∈q.cb:=by unfold Pq.cb;simp
 have ib:q.rb∈q.cb:=by unfold Pq.cb;simp
 obtain ⟨n1,n2,n3⟩:=h.ns q hm;refine ⟨ee,⟨q.p,q.px,q.rb,jV,pK,B1,W1⟩,?_⟩;have ec:jk (Q.set n ⟨q.p,q.px,q.rb,jV,pK,B1,W1⟩)=jk Q:=Rh Pq.cb hq rfl;have at_:∀ i a,(Q.set n ⟨q.p,q.px,q.rb,jV,pK,B1,W1⟩)[i]?=some a->(i=n/\a=⟨q.p,q.px,q.rb,jV,pK,B1,W1⟩)\/(i≠n/\Q[i]?=some a):=fun i a ha=>by
  rw [List.getElem?_set] at ha;split at ha
  ·rename_i hi
   split at ha
   ·exact .inl ⟨hi.symm,by cases ha;rfl⟩
   ·cases ha
  ·rename_i hi
   exact .inr ⟨fun x=>hi x.symm,ha⟩
 have pJ:∀ r,(some r∈jV\/some r∈pK)->((some r∈q.rs\/some r∈q.ds)\/∀ x,r.S x->wr.heap.size<=x):=fun r hr=>by
  rcases hr with y | y
  ·rcases f1 r y with z | z
   ·exact .inl (.inl z)
   ·exact .inr z
  ·rcases f2 r y with z | z
   ·exact .inl (.inr z)
   ·exact .inr fun x hx=>by have:=z x hx;omega
 have FQ:∀ r,(some r∈jV\/some r∈pK)->¬ r.S ab/\∀ x∈jk Q,¬ r.S x:=fun r hr=>by
  rcases pJ r hr with z | z
  ·exact h.rn q hm r z
  ·exact ⟨fun y=>by have:=z ab y;omega,fun x hx y=>by have:=z x y;have:=fl x hx;omega⟩
 refine ⟨?_,List.length_set,fun x hx o=>⟨o.1,by rw [ec];exact o.2.1,fun a ha r hr y=>?_⟩⟩
 rotate_left
 ·obtain ⟨i,hi⟩:=List.mem_iff_getElem?.1 ha
  rcases at_ i a hi with ⟨_,rfl⟩ | ⟨ne,bV⟩
  ·rcases pJ r hr with z | z
   ·exact o.2.2 q hm r z y
   ·have:=z x y;omega
  ·exact o.2.2 a (List.mem_of_getElem? bV) r hr y
 refine ⟨?_,fun a ha=>?_,fun a ha=>?_,by rw [ec];exact h.far,fun i j a b ha hb jI=>?_,fun a ha=>?_,fun a ha r hr=>?_,by rw [List.length_set];exact h.n1,by rw [List.length_set];exact h.n3,?_⟩
 ·rw [List.length_set,Rh lN (q':=⟨q.p,q.px,q.rb,jV,pK,B1,W1⟩) hq rfl]
  refine oR h.own fun x hx=>?_
  have ex:ab=x:=by simpa [Value.ownBlock] using hx
  rw [<-ex];have b1:=g1.block ab tJ.2 (fun y=>(h.far _ (dh hm ip)).2 y.symm)
  have b2:=g.below.block ab (by omega)
  have b3:=g2.block ab (by omega) (fun y=>by
   rcases y with y | y
   ·exact (h.far _ (dh hm ix)).2 y.symm
   ·exact (h.far _ (dh hm ib)).2 y.symm)
  exact b3.trans (b2.trans b1)
 ·obtain ⟨i,hi⟩:=List.mem_iff_getElem?.1 ha
  rcases at_ i a hi with ⟨_,rfl⟩ | ⟨ne,bV⟩
  ·refine ⟨(zW.gw H.kp g).gx H.kp g2 (fun y=>by rcases y with y | y;exact n1 y;exact n2 y) (fun x hx r hr=>?_),da,al1⟩
   rcases hx with y | y
   ·rw [y];exact (FQ r (.inl hr)).2 _ (dh hm ix)
   ·rw [y];exact (FQ r (.inl hr)).2 _ (dh hm ib)
  ·have am:a∈Q:=List.mem_of_getElem? bV
   obtain ⟨o1,o2,o3⟩:=h.ok a am;have dd:=h.nd i n a q bV hq ne;have jp:a.p∈a.cb:=by unfold Pq.cb;simp
   have jx:a.px∈a.cb:=by unfold Pq.cb;simp
   have jb:a.rb∈a.cb:=by unfold Pq.cb;simp
   have rr:∀ r,(some r∈a.rs\/some r∈a.ds)->∀ x∈jk Q,¬ r.S x:=fun r hr=>(h.rn a am r hr).2
   refine ⟨((o1.gx H.kp g1 (fun y=>dd _ jp _ ip y) (fun x hx r hr=>by rw [hx];exact rr r (.inl hr) _ (dh hm ip))).gw H.kp g).gx H.kp g2 (fun y=>by rcases y with y | y;exact dd _ jp _ ix y;exact dd _ jp _ ib y) (fun x hx r hr=>?_),((o2.gx g1 (fun y=>dd _ jx _ ip y) (fun y=>dd _ jb _ ip y) (fun x hx r hr=>by rw [hx];exact rr r (.inr hr) _ (dh hm ip))).gw g).gx g2 (fun y=>by rcases y with y | y;exact dd _ jx _ ix y;exact dd _ jx _ ib y) (fun y=>by rcases y with y | y;exact dd _ jb _ ix y;exact dd _ jb _ ib y) (fun x hx r hr=>?_),o3⟩
   ·rcases hx with y | y
    ·rw [y];exact rr r (.inl hr) _ (dh hm ix)
    ·rw [y];exact rr r (.inl hr) _ (dh hm ib)
   ·rcases hx with y | y
    ·rw [y];exact rr r (.inr hr) _ (dh hm ix)
    ·rw [y];exact rr r (.inr hr) _ (dh hm ib)
 ·obtain ⟨i,hi⟩:=List.mem_iff_getElem?.1 ha
  rcases at_ i a hi with ⟨_,rfl⟩ | ⟨ne,bV⟩
  ·obtain ⟨y1,y2,y3⟩:=h.few q hm
   exact ⟨by show tot jV<=_;omega,by show 0<=B1/\B1<=_;omega,by show 0<=W1;omega,by show W1<=_;omega⟩
  ·obtain ⟨y1,y2,y3⟩:=h.few a (List.mem_of_getElem? bV)
   exact ⟨by omega,by omega,by omega,by omega⟩
 ·rcases at_ i a ha with ⟨rfl,rfl⟩ | ⟨ne,l9⟩
  ·rcases at_ j b hb with ⟨rfl,rfl⟩ | ⟨ne',cY⟩
   ·exact absurd rfl jI
   ·exact h.nd i j q b hq cY jI
  ·rcases at_ j b hb with ⟨rfl,rfl⟩ | ⟨ne',cY⟩
   ·exact h.nd i j a q l9 hq jI
   ·exact h.nd i j a b l9 cY jI
 ·obtain ⟨i,hi⟩:=List.mem_iff_getElem?.1 ha
  rcases at_ i a hi with ⟨_,rfl⟩ | ⟨ne,bV⟩
  ·exact ⟨n1,n2,n3⟩
  ·exact h.ns a (List.mem_of_getElem? bV)
 ·rw [ec]
  obtain ⟨i,hi⟩:=List.mem_iff_getElem?.1 ha;rcases at_ i a hi with ⟨_,rfl⟩ | ⟨ne,bV⟩
  ·exact FQ r hr
  ·exact h.rn a (List.mem_of_getElem? bV) r hr
 ·have w1:=Gx.gw h.g0 g1 (fun x hx=>by rw [hx];exact (h.far _ (dh hm ip)).1)
  exact Gx.gw (w1.trans g) g2 (fun x hx=>by
   rcases hx with y | y
   ·rw [y];exact (h.far _ (dh hm ix)).1
   ·rw [y];exact (h.far _ (dh hm ib)).1)
structure kK (HR:aV) (wr u:World) (eps buf:Int) (Q:List Pq) (k s:Nat) (y:Pq):Prop where
 hy:au HR u y.p y.rs eps buf y.B y.W/\aG u y.px y.rb y.ds eps buf y.B y.W/\Al y.rs y.ds
 fy:tot y.rs<=s/\(0<=y.B/\y.B<=k)/\0<=y.W/\y.W<=800*(k:Int)
 fr:∀ x∈y.cb,wr.heap.size<=x
 ns:y.p≠y.px/\y.p≠y.rb/\y.px≠y.rb
 ry:∀ r,(some r∈y.rs\/some r∈y.ds)->∃ q∈Q,some r∈q.rs\/some r∈q.ds
theorem kK.gw (K:Kp HR) {u V:World} {y:Pq} (h:kK HR wr u eps buf Q k s y) (g:Gw u V):kK HR wr V eps buf Q k s y:=⟨⟨h.hy.1.gw K g,h.hy.2.1.gw g,h.hy.2.2⟩,h.fy,h.fr,h.ns,h.ry⟩
theorem kK.gx (K:Kp HR) {u V:World} {y:Pq} (h:kK HR wr u eps buf Q k s y) (p:aP HR w0 wr ab ac eps buf Q k s) {x:Nat} (g:Gx (fun z=>z=x) u V) (hx:wr.heap.size<=x) (ny:x ∉ y.cb):kK HR wr V eps buf Q k s y:=by
 have nr:∀ r,(some r∈y.rs\/some r∈y.ds)->¬ r.S x:=fun r hr z=>by
  obtain ⟨q,hq,jA⟩:=h.ry r hr;have:=p.rl K q hq r jA x z;omega
 have ip:y.p∈y.cb/\y.px∈y.cb/\y.rb∈y.cb:=by unfold Pq.cb;simp
 exact ⟨⟨h.hy.1.gx K g (fun e=>ny (by rw [<-e];exact ip.1)) (fun z hz r hr=>by rw [hz];exact nr r (.inl hr)),h.hy.2.1.gx g (fun e=>ny (by rw [<-e];exact ip.2.1)) (fun e=>ny (by rw [<-e];exact ip.2.2)) (fun z hz r hr=>by rw [hz];exact nr r (.inr hr)),h.hy.2.2⟩,h.fy,h.fr,h.ns,h.ry⟩
theorem aP.like (K:Kp HR) (h:aP HR w0 wr ab ac eps buf Q k s) {n:Nat} {q:Pq} (hq:Q[n]?=some q) {u1 u2 u3:World} {p' bO b':Nat} {B W:Int} (g1:Gw wr u1) (hc:au HR u2 p' q.rs eps buf B W) (hp:u1.heap.size<=p') (g3:Gw u2 u3) (hd:aG u3 bO b' q.ds eps buf B W) (hx:u2.heap.size<=bO) (hb:u2.heap.size<=b') (bw:(0<=B/\B<=k)/\0<=W/\W<=800*(k:Int)):kK HR wr u3 eps buf Q k s ⟨p',bO,b',q.rs,q.ds,B,W⟩:=by
 have hm:=List.mem_of_getElem? hq;have s1:=g1.size;have s2:=hc.lt;have ne:=hd.ne;refine ⟨⟨hc.gw K g3,hd,(h.ok q hm).2.2⟩,⟨(h.few q hm).1,bw⟩,fun x gX=>?_,⟨by show p'≠bO;omega,by show p'≠b';omega,fun e=>ne e.symm⟩,fun r hr=>⟨q,hm,hr⟩⟩
 have e:x=p'\/x=bO\/x=b':=by simpa [Pq.cb] using gX
 rcases e with e | e | e<;>omega
theorem aP.new (K:Kp HR) (h:aP HR w0 wr ab ac eps buf Q k s) {u v:World} (g:Gw wr u) {y:Pq} {j:Nat} {Q':List Pq} {sV Ri:Nat} (N:kK HR wr u eps buf Q k s y)
  (own:v.ownsRow w0.heap.size 32 2 (.slice (some ⟨sV,0,none⟩) Q'.length Ri) Q'.length (Q'.flatMap lN)) (gx:Gx (fun x=>x=ab) u v) (at_:∀ i a,Q'[i]?=some a->(i=j/\a=y)\/(i≠j/\Q[i]?=some a)) (o8:sV=ab\/u.heap.size<=sV) (n1:1<=Q'.length) (n3:Q'.length<=3):aP HR w0 v sV Ri eps buf Q' k s:=by
 obtain ⟨hy,fy,fr,ns,ry⟩:=N;have hu:=h.gw K g;have tJ:=World.ownsRow.lt h.own ab rfl;have fl:=h.lt;have us:=g.size;have RL:=h.rl K;have yl:∀ x∈y.cb,x<u.heap.size:=fun x hx=>by
  unfold Pq.cb at hx;simp only [List.mem_cons,List.not_mem_nil,or_false] at hx;rcases hx with e | e | e
  ·rw [e];exact hy.1.lt
  ·rw [e];exact hy.2.1.plt
  ·rw [e];exact hy.2.1.blt
 have ya:∀ x∈y.cb,x≠ab:=fun x hx e=>by have:=fr x hx;omega
 have xz:∀ a∈Q',a=y\/a∈Q:=fun a ha=>by
  obtain ⟨i,hi⟩:=List.mem_iff_getElem?.1 ha;rcases at_ i a hi with ⟨_,e⟩ | ⟨_,e⟩
  ·exact .inl e
  ·exact .inr (List.mem_of_getElem? e)
 have Rj:∀ x∈jk Q',x∈y.cb\/x∈jk Q:=fun x hx=>by
  obtain ⟨a,ha,hc⟩:=List.mem_flatMap.1 hx;rcases xz a ha with e | e
  ·exact .inl (by rw [<-e];exact hc)
  ·exact .inr (dh e hc)
 have Rk:∀ q∈Q,∀ r,(some r∈q.rs\/some r∈q.ds)->¬ r.S sV/\∀ x∈jk Q',¬ r.S x:=fun q hq r hr=>by
  refine ⟨fun x=>?_,fun x hx y'=>?_⟩
  ·rcases o8 with e | e
   ·rw [e] at x;exact (h.rn q hq r hr).1 x
   ·have:=RL q hq r hr _ x;omega
  ·rcases Rj x hx with z | z
   ·have:=fr x z;have:=RL q hq r hr x y';omega
   ·exact (h.rn q hq r hr).2 x z y'
 have ip:∀ a:Pq,a.p∈a.cb/\a.px∈a.cb/\a.rb∈a.cb:=fun a=>by unfold Pq.cb;simp
 refine ⟨own,fun a ha=>?_,fun a ha=>?_,fun x hx=>?_,fun i i' a b ha hb jI=>?_,fun a ha=>?_,fun a ha r hr=>?_,n1,n3,?_⟩
 ·rcases xz a ha with e | e
  ·subst e
   have nr:∀ r,(some r∈a.rs\/some r∈a.ds)->¬ r.S ab:=fun r hr=>by
    obtain ⟨q,hq,jA⟩:=ry r hr;exact (h.rn q hq r jA).1
   exact ⟨hy.1.gx K gx (fun x=>ya _ (ip a).1 x) (fun x hx r hr=>by rw [hx];exact nr r (.inl hr)),hy.2.1.gx gx (fun x=>ya _ (ip a).2.1 x) (fun x=>ya _ (ip a).2.2 x) (fun x hx r hr=>by rw [hx];exact nr r (.inr hr)),hy.2.2⟩
  ·obtain ⟨o1,o2,o3⟩:=hu.ok a e
   have fa:=fun x hx=>(h.far x (dh e hx)).2
   exact ⟨o1.gx K gx (fun x=>fa _ (ip a).1 x) (fun x hx r hr=>by rw [hx];exact (h.rn a e r (.inl hr)).1),o2.gx gx (fun x=>fa _ (ip a).2.1 x) (fun x=>fa _ (ip a).2.2 x) (fun x hx r hr=>by rw [hx];exact (h.rn a e r (.inr hr)).1),o3⟩
 ·rcases xz a ha with e | e
  ·rw [e];exact fy
  ·exact h.few a e
 ·rcases Rj x hx with z | z
  ·have f1:=fr x z
   have f2:=yl x z;have f3:=ya x z;have:=h.g0.size;refine ⟨by omega,fun e=>?_⟩
   rcases o8 with q | q
   ·rw [q] at e;exact f3 e
   ·omega
  ·have f1:=fl x z
   obtain ⟨f2,f3⟩:=h.far x z;refine ⟨f2,fun e=>?_⟩
   rcases o8 with q | q
   ·rw [q] at e;exact f3 e
   ·omega
 ·rcases at_ i a ha with ⟨e1,e2⟩ | ⟨e1,e2⟩
  ·rcases at_ i' b hb with ⟨e3,e4⟩ | ⟨e3,e4⟩
   ·exact absurd (e1.trans e3.symm) jI
   ·intro x hx z hz e
    rw [e2] at hx;have:=fr x hx;have:=fl z (dh (List.mem_of_getElem? e4) hz);omega
  ·rcases at_ i' b hb with ⟨e3,e4⟩ | ⟨e3,e4⟩
   ·intro x hx z hz e
    rw [e4] at hz;have:=fr z hz;have:=fl x (dh (List.mem_of_getElem? e2) hx);omega
   ·exact h.nd i i' a b e2 e4 jI
 ·rcases xz a ha with e | e
  ·rw [e];exact ns
  ·exact h.ns a e
 ·rcases xz a ha with e | e
  ·rw [e] at hr
   obtain ⟨q,hq,jA⟩:=ry r hr;exact Rk q hq r jA
  ·exact Rk a e r hr
 ·exact Gx.gw hu.g0 gx (fun x hx=>by rw [hx];exact tJ.1)
theorem Rl (y:Pq):∀ (Q:List Pq) (j:Nat),j<Q.length->((Q.flatMap lN).set (j*2) (.pointer (some ⟨y.p,0,none⟩))).set (j*2+1) (.pointer (some ⟨y.px,0,none⟩))=(Q.set j y).flatMap lN
 | [],j,h=>by simp at h
 | a::Q,0,_=>rfl
 | a::Q,j+1,h=>by
  have ih:=Rl y Q j (by simpa using h)
  rw [List.set_cons_succ,List.flatMap_cons,List.flatMap_cons,<-ih,show (j+1)*2=j*2+1+1 by omega]
  rfl
theorem aP.put (K:Kp HR) (h:aP HR w0 wr ab ac eps buf Q k s) {u:World} (g:Gw wr u) {y:Pq} {j:Nat} (hj:j<Q.length) (N:kK HR wr u eps buf Q k s y) :
  aP HR w0 ((u.setCell ⟨ab,j*2,none⟩ (.pointer (some ⟨y.p,0,none⟩))).setCell ⟨ab,j*2+1,none⟩ (.pointer (some ⟨y.px,0,none⟩))) ab ac eps buf (Q.set j y) k s:=by
 refine h.new K g (j:=j) N ?_ (((Gx.refl (fun x=>x=ab) u).set (.inl rfl) _ _).set (.inl rfl) _ _) (fun i a ha=>?_) (.inl rfl) (by rw [List.length_set];exact h.n1) (by rw [List.length_set];exact h.n3)
 ·have:=(((h.gw K g).own.stored (j*2) (.pointer (some ⟨y.p,0,none⟩))).1.stored (j*2+1) (.pointer (some ⟨y.px,0,none⟩))).1
  rw [Rl y Q j hj] at this;rw [List.length_set];exact this
 ·rw [List.getElem?_set] at ha
  split at ha
  ·rename_i hi
   exact .inl ⟨hi.symm,by cases ha;rfl⟩
  ·rename_i hi
   exact .inr ⟨fun x=>hi x.symm,ha⟩
theorem aP.add (K:Kp HR) (h:aP HR w0 wr ab ac eps buf Q k s) {u w8:World} {o:Obj} {b8 c8:Nat} (g:Gw wr u) {y:Pq} (hn:Q.length<3) (N:kK HR wr u eps buf Q k s y)
  (r1:w8.ownsRow w0.heap.size 32 2 (.slice (some ⟨b8,0,none⟩) (Q.length+1) c8) (Q.length+1) (Q.flatMap lN++lN y)) (r2:(u.alloc o).grownBy w8 (some ab)) (o8:b8=ab\/u.heap.size<=b8):aP HR w0 w8 b8 c8 eps buf (Q++[y]) k s:=by
 refine h.new K g (j:=Q.length) N ?_ (Gx.grown (w':=u.alloc o) ⟨rfl,rfl,rfl,by simp,fun q hq _=>heap_alloc_old _ _ hq⟩ r2 (fun k e=>by cases e;exact .inl rfl)) (fun i a ha=>?_) o8 (by simp) (by simp;omega)
 ·rw [List.length_append,List.flatMap_append]
  simpa using r1
 ·by_cases e:i<Q.length
  ·rw [List.getElem?_append_left e] at ha
   exact .inr ⟨by omega,ha⟩
  ·rw [List.getElem?_append_right (by omega)] at ha
   have:i-Q.length=0:=by
    have:=(List.getElem?_eq_some_iff.1 ha).1
    simp at this;omega
   rw [this] at ha;exact .inl ⟨by omega,by simpa using ha.symm⟩
end
end Go.Proofs.YtklkpldicbkjeaaGreat
