/- Two rows of runs, the program's and the document's; two Takes held against one another; runs as they are handed in. -/
import Derived.Test.YteflpamjgaeaiaaGreatUUDoc
set_option linter.unusedVariables false
set_option maxRecDepth 10000
open Go.Proofs.Tryz
namespace Go.Proofs.YteflpamjgaeaiaaGreat
open Go.RowKit Go.Joins Go.ChangeAt Go.WideShapes Go.ChangeShapes
theorem tot_up15 (l:List (Option Rn)):tot (upR l)<=tot l:=by
 unfold upR;have r:∀ n,tot (List.replicate n (none:Option Rn))=0:=fun n=>by
  induction n with
  | zero=>rfl
  | succ n ih=>rw [List.replicate_succ,tot_none];exact ih
 rw [tot_app,r];have:=tot_take l 40;omega
theorem take_both {HR HR':HRt} {HC HC':World->List (Option Rn)->Int->Int->Prop} {F F':Nat->Prop} {w w1 w2 w3:World} {e e':Ending} {rs rs':List (Option Rn)} {l:List Ent} {eps buf B W:Int} (h:TakeOut HR HC F w w1 e rs l eps buf B W) (h':TakeOut HR' HC' F' w2 w3 e' rs' l eps buf B W) (al:Al rs rs'):∃ (a b c E:Int) (rs1 rs1':List (Option Rn)) (B1 W1:Int),e=.returned (.tuple #[.agg #[.int .i64 a,.int .i64 b,.int .i64 c],.int .i64 E])/\e'=.returned (.tuple #[.agg #[.int .i64 a,.int .i64 b,.int .i64 c],.int .i64 E])/\HC w1 rs1 B1 W1/\HC' w3 rs1' B1 W1/\Al rs1 rs1'/\(∀ r,some r∈rs1->some r∈rs\/∀ q,r.S q->w.heap.size<=q)/\∀ r,some r∈rs1'->some r∈rs'\/∀ q,r.S q->w2.heap.size<=q:=by
 have lm:∀ {HR:HRt} {w w':World} {rs:List (Option Rn)} {kept:List Ent} {rn:Option Rn},LaidR HR w w' eps kept rn->∀ r,some r∈laid rs rn->some r∈rs\/∀ q,r.S q->w.heap.size<=q:=fun {HR w w' rs kept rn} ld r hr=>by
  unfold laid at hr;rcases List.mem_append.1 hr with q | q
  ·simp at q
  ·rcases List.mem_cons.1 q with q | q
   ·rcases ld with ⟨_,b⟩ | ⟨_,r',b1,_,_,_,b5,_⟩
    ·rw [b] at q;cases q
    ·rw [b1] at q;cases q;exact .inr b5
   ·exact .inl (List.mem_of_mem_drop q)
 obtain ⟨⟨r0,c0,x⟩,_⟩:=h;obtain ⟨⟨r1,c1,y⟩,_⟩:=h';have e01:=c0.one c1;subst e01;rcases x with ⟨a1,a2,a3,_⟩ | ⟨a1,a2,a3,a4,_⟩ | ⟨a1,a2,o,kept,rn,tr,a3,ld,a4⟩<;>rcases y with ⟨b1,b2,b3,_⟩ | ⟨b1,b2,b3,b4,_⟩ | ⟨b1,b2,o',kept',rn',tr',b3,ld',b4⟩
 ·exact ⟨0,0,0,150,rs,rs',B,W,a2,b2,a3,b3,al,fun r hr=>.inl hr,fun r hr=>.inl hr⟩
 ·exact absurd b1 a1
 ·exact absurd b1 a1
 ·exact absurd a1 b1
 ·exact ⟨0,0,0,151,rs,rs',B,W,a3,b3,a4,b4,al,fun r hr=>.inl hr,fun r hr=>.inl hr⟩
 ·exact absurd b2 a2
 ·exact absurd a1 b1
 ·exact absurd a2 b2
 ·have ek:kept=kept':=(al.takeR tr).one tr'
  subst ek;exact ⟨_,_,_,0,laid rs rn,laid rs' rn',_,_,a3,by rw [b3,al.freeC,al.took];rfl,a4,b4,al.laid (ld.al ld'),lm ld,lm ld'⟩
def NewO (HR:HRt) (N:Nat) (w':World) (e:Ending) (ex:Int) (lx:List Ent):Prop :=
 ∃ (pv:Value) (E:Int) (o:Option Rn),e=.returned (.tuple #[pv,.int .i64 E])/\pv=ptr o/\NewE ex (ek lx) (ev lx) (eg lx) lx.length E/\((E≠0/\o=none)\/(E=0/\∃ r,o=some r/\r.eps=ex/\r.l=lx/\BuildR ex (ek lx) lx.length r.L/\(∀ q,r.S q->N<=q)/\RA HR w' r))
theorem RunOut.o {HR:HRt} {N:Nat} {W w':World} {e:Ending} {ex:Int} {lx:List Ent} (h:RunOut HR W w' e ex (ek lx) (ev lx) (eg lx) lx.length) (bd:∀ e∈lx,e.ok) (few:lx.length<=2000000) (hN:N<=W.heap.size):NewO HR N w' e ex lx:=by
 obtain ⟨E,ne,x⟩:=h;rcases x with ⟨a,b⟩ | ⟨a,p,S,L,b,hS,br,hr⟩
 ·exact ⟨_,E,none,b,rfl,ne,.inl ⟨a,rfl⟩⟩
 ·subst a
  refine ⟨_,0,some ⟨p,S,ex,lx,L⟩,b,rfl,ne,.inr ⟨rfl,_,rfl,rfl,rfl,br,fun q hq=>Nat.le_trans hN (hS q hq),hr,?_,bd,few⟩⟩
  rcases ne with ⟨_,y⟩ | ⟨_,y⟩
  ·cases y
  ·exact y
theorem NewO.both {HR HR':HRt} {N:Nat} {ex E E':Int} {lx:List Ent} {o o':Option Rn} {w w':World} (n:NewE ex (ek lx) (ev lx) (eg lx) lx.length E) (n':NewE ex (ek lx) (ev lx) (eg lx) lx.length E') (h:(E≠0/\o=none)\/(E=0/\∃ r,o=some r/\r.eps=ex/\r.l=lx/\BuildR ex (ek lx) lx.length r.L/\(∀ q,r.S q->N<=q)/\RA HR w r)) (h':(E'≠0/\o'=none)\/(E'=0/\∃ r,o'=some r/\r.eps=ex/\r.l=lx/\BuildR ex (ek lx) lx.length r.L/\(∀ q,r.S q->N<=q)/\RA HR' w' r)) :
  o.map sig=o'.map sig/\((o=none/\o'=none)\/∃ r r',o=some r/\o'=some r')/\sizeO o<=lx.length:=by
 have e:=n.one n';subst e;rcases h with ⟨a,b⟩ | ⟨a,r,b1,b2,b3,b4,_⟩<;>rcases h' with ⟨a',b'⟩ | ⟨a',r',c1,c2,c3,c4,_⟩
 ·rw [b,b'];exact ⟨rfl,.inl ⟨rfl,rfl⟩,Nat.zero_le _⟩
 ·exact absurd a' a
 ·exact absurd a a'
 ·rw [b1,c1]
  refine ⟨?_,.inr ⟨r,r',rfl,rfl⟩,by show r.l.length<=_;rw [b3];exact Nat.le_refl _⟩
  simp only [Option.map_some,sig];rw [b2,c2,b3,c3,b4.one c4]
theorem take_form {HR:HRt} {HC:World->List (Option Rn)->Int->Int->Prop} {F:Nat->Prop} {w w1:World} {e:Ending} {rs:List (Option Rn)} {l:List Ent} {eps buf B W:Int} (h:TakeOut HR HC F w w1 e rs l eps buf B W):∃ a b c E:Int,e=.returned (.tuple #[.agg #[.int .i64 a,.int .i64 b,.int .i64 c],.int .i64 E]):=by
 obtain ⟨⟨r0,c0,x⟩,_⟩:=h;rcases x with ⟨_,x,_⟩ | ⟨_,_,x,_⟩ | ⟨_,_,o,kept,rn,_,x,_⟩
 ·exact ⟨_,_,_,_,x⟩
 ·exact ⟨_,_,_,_,x⟩
 ·exact ⟨_,_,_,_,x⟩
structure OfI (HR:HRt) (w0 wr:World) (mb mc tb tc:Nat) (A D:List (Option Rn)):Prop where
 own1:wr.ownsRow w0.heap.size 57 1 (.slice (some ⟨mb,0,none⟩) A.length mc) A.length (A.map ptr)
 own2:wr.ownsRow w0.heap.size 65 1 (.slice (some ⟨tb,0,none⟩) D.length tc) D.length (D.map ptr)
 ne:mb≠tb
 ra:∀ r,some r∈A->RA HR wr r/\¬ r.S mb/\¬ r.S tb
 rd:∀ r,some r∈D->RA HDoc wr r/\¬ r.S mb/\¬ r.S tb
 gw0:Gw w0 wr
section
variable {HR:HRt} {w0 wr:World} {mb mc tb tc:Nat} {A D:List (Option Rn)}
theorem OfI.gw (K:Kp HR) {W:World} (h:OfI HR w0 wr mb mc tb tc A D) (g:Gw wr W):OfI HR w0 W mb mc tb tc A D :=
 ⟨own_kept h.own1 fun q hq=>g.below.block q (World.ownsRow.lt h.own1 q hq).2,own_kept h.own2 fun q hq=>g.below.block q (World.ownsRow.lt h.own2 q hq).2,h.ne,fun r hr=>⟨(h.ra r hr).1.gw K g,(h.ra r hr).2⟩,fun r hr=>⟨(h.rd r hr).1.gw HDoc.kp g,(h.rd r hr).2⟩,h.gw0.trans g⟩
theorem OfI.m (h:OfI HR w0 wr mb mc tb tc A D):w0.heap.size<=mb/\mb<wr.heap.size:=World.ownsRow.lt h.own1 mb rfl
theorem OfI.t (h:OfI HR w0 wr mb mc tb tc A D):w0.heap.size<=tb/\tb<wr.heap.size:=World.ownsRow.lt h.own2 tb rfl
theorem OfI.cap (h:OfI HR w0 wr mb mc tb tc A D):A.length<=mc:=(own_slice h.own1 (by simp)).elim fun _ ⟨_,ev,_,x,_⟩=>by cases ev;exact x
theorem OfI.app1 (K:Kp HR) {o:Option Rn} {ob:Obj} {w8:World} {b8 c8:Nat} (h:OfI HR w0 wr mb mc tb tc A D) (ho:∀ r,o=some r->RA HR wr r/\¬ r.S mb/\¬ r.S tb)
  (r1:w8.ownsRow w0.heap.size 57 1 (.slice (some ⟨b8,0,none⟩) (A.length+1) c8) (A.length+1) (A.map ptr++[ptr o])) (r2:(wr.alloc ob).grownBy w8 (some mb)) (o8:b8=mb\/wr.heap.size<=b8):OfI HR w0 w8 b8 c8 tb tc (A++[o]) D:=by
 have gx:Gx (fun q=>q=mb) wr w8:=Gx.grown (w':=wr.alloc ob) ⟨rfl,rfl,rfl,by simp,fun q hq _=>heap_alloc_old _ _ hq⟩ r2 (fun k e=>by cases e;exact .inl rfl)
 have mt:=h.t;have mm:=h.m;have nb:∀ (HR':HRt) (K':Kp HR') (r:Rn),RA HR' wr r/\¬ r.S mb/\¬ r.S tb->RA HR' w8 r/\¬ r.S b8/\¬ r.S tb:=fun HR' K' r ⟨q1,q2,q3⟩=>⟨q1.gx K' gx (fun q hq=>by rw [hq];exact q2),fun x=>by
  rcases o8 with e | e
  ·rw [e] at x;exact q2 x
  ·have:=K'.lt q1.h b8 x;omega,q3⟩
 refine ⟨by rw [List.length_append,List.map_append];exact r1,own_kept h.own2 fun q hq=>?_,?_,fun r hr=>?_,fun r hr=>nb _ HDoc.kp r (h.rd r hr),?_⟩
 ·have e:tb=q:=by simpa [Value.ownBlock] using hq
  rw [<-e];exact gx.block tb mt.2 (fun x=>h.ne x.symm)
 ·rcases o8 with e | e
  ·rw [e];exact h.ne
  ·omega
 ·rcases List.mem_append.1 hr with q | q
  ·exact nb _ K r (h.ra r q)
  ·exact nb _ K r (ho r (List.mem_singleton.1 q).symm)
 ·exact Gx.gw h.gw0 gx (fun q hq=>by rw [hq];exact mm.1)
theorem OfI.app2 (K:Kp HR) {o:Option Rn} {ob:Obj} {w8:World} {b8 c8:Nat} (h:OfI HR w0 wr mb mc tb tc A D) (ho:∀ r,o=some r->RA HDoc wr r/\¬ r.S mb/\¬ r.S tb)
  (r1:w8.ownsRow w0.heap.size 65 1 (.slice (some ⟨b8,0,none⟩) (D.length+1) c8) (D.length+1) (D.map ptr++[ptr o])) (r2:(wr.alloc ob).grownBy w8 (some tb)) (o8:b8=tb\/wr.heap.size<=b8):OfI HR w0 w8 mb mc b8 c8 A (D++[o]):=by
 have gx:Gx (fun q=>q=tb) wr w8:=Gx.grown (w':=wr.alloc ob) ⟨rfl,rfl,rfl,by simp,fun q hq _=>heap_alloc_old _ _ hq⟩ r2 (fun k e=>by cases e;exact .inl rfl)
 have mt:=h.t;have mm:=h.m;have nb:∀ (HR':HRt) (K':Kp HR') (r:Rn),RA HR' wr r/\¬ r.S mb/\¬ r.S tb->RA HR' w8 r/\¬ r.S mb/\¬ r.S b8:=fun HR' K' r ⟨q1,q2,q3⟩=>⟨q1.gx K' gx (fun q hq=>by rw [hq];exact q3),q2,fun x=>by
  rcases o8 with e | e
  ·rw [e] at x;exact q3 x
  ·have:=K'.lt q1.h b8 x;omega⟩
 refine ⟨own_kept h.own1 fun q hq=>?_,by rw [List.length_append,List.map_append];exact r1,?_,fun r hr=>nb _ K r (h.ra r hr),fun r hr=>?_,?_⟩
 ·have e:mb=q:=by simpa [Value.ownBlock] using hq
  rw [<-e];exact gx.block mb mm.2 h.ne
 ·rcases o8 with e | e
  ·rw [e];exact h.ne
  ·omega
 ·rcases List.mem_append.1 hr with q | q
  ·exact nb _ HDoc.kp r (h.rd r q)
  ·exact nb _ HDoc.kp r (ho r (List.mem_singleton.1 q).symm)
 ·exact Gx.gw h.gw0 gx (fun q hq=>by rw [hq];exact mt.1)
theorem own_pr {HR:HRt} {t base mb mc:Nat} {A:List (Option Rn)} (o:wr.ownsRow base t 1 (.slice (some ⟨mb,0,none⟩) A.length mc) A.length (A.map ptr)) (hr:∀ r,some r∈A->RA HR wr r):PR HR wr (some ⟨mb,0,none⟩) A :=
 ⟨fun _=>⟨mb,0,rfl,(o.lt mb rfl).2,fun i hi=>by
  rw [Nat.zero_add,World.ownsRow.cellAt o i (by omega),List.getElem?_map,List.getElem?_eq_getElem hi,<-getD_rs hi]
  rfl⟩,hr⟩
theorem OfI.pr1 (h:OfI HR w0 wr mb mc tb tc A D):PR HR wr (some ⟨mb,0,none⟩) A:=own_pr h.own1 fun r hr=>(h.ra r hr).1
theorem OfI.pr2 (h:OfI HR w0 wr mb mc tb tc A D):PR HDoc wr (some ⟨tb,0,none⟩) D:=own_pr h.own2 fun r hr=>(h.rd r hr).1
end
abbrev held0:List Ent×Int:=([],0)
structure HeldL (w:World) (ao:Option Addr) (hs:List (List Ent×Int)):Prop where
 cells:0<hs.length->∃ b off,ao=some ⟨b,off,none⟩/\b<w.heap.size/\∀ i,i<hs.length->∃ bo c,w.cell? ⟨b,off+i*2,none⟩=some (.slice bo (hs.getD i held0).1.length c)/\w.cell? ⟨b,off+i*2+1,none⟩=some (.int .i64 (hs.getD i held0).2)/\EL w bo (hs.getD i held0).1/\(hs.getD i held0).1.length<=c/\(bo=none->(hs.getD i held0).1.length=0/\c=0)/\-9223372036854775808<=(hs.getD i held0).2/\(hs.getD i held0).2<9223372036854775808
theorem HeldL.gw {w w':World} {ao:Option Addr} {hs:List (List Ent×Int)} (h:HeldL w ao hs) (g:Gw w w'):HeldL w' ao hs :=
 ⟨fun h0=>by
  obtain ⟨b,off,e,hb,hc⟩:=h.cells h0;refine ⟨b,off,e,Nat.lt_of_lt_of_le hb g.size,fun i hi=>?_⟩
  obtain ⟨bo,c,c1,c2,c3,c4,c5,c6⟩:=hc i hi;exact ⟨bo,c,(g.cell _ _ hb).trans c1,(g.cell _ _ hb).trans c2,c3.gw g,c4,c5,c6⟩⟩
theorem cells_h15:prog.cellsOf 62=2:=by kernel_rfl
theorem cells_i15:prog.cellsOf 3=1:=by kernel_rfl
theorem i64_in15 {x:Int} (h:(Lit.int .i64 x).wf=true):-9223372036854775808<=x/\x<9223372036854775808:=by
 simp [Lit.wf,IntKind.min,IntKind.max,IntKind.signed,IntKind.bits] at h
 exact ⟨by omega,by omega⟩
theorem open_held {H:Type} {enc:TypeId×Value->H} {W:World} {ao:Option Addr} {n c:Nat} {d:DataW H} {p:List MemPlace} (h:DataW.Trod enc prog W 0 (fun _=>true) true 60 (.slice ao n c) d p) :
  ∃ l:List (List Ent×Int),l.length=n/\HeldL W ao l/\(ao=none->n=0/\c=0)/\n<=c/\1+n<=Rows.uptoBulk d:=by
 obtain ⟨fuel,hf⟩:=h;rcases Go.Deep.open_slice underlying60 hf with ⟨hcs,hx⟩ | ⟨a,n',c',m,fu,D,Pl,hcs,_,hl,hmx,hm,hx,hel⟩
 ·simp [Value.cells] at hcs
  obtain ⟨rfl,rfl,rfl⟩:=hcs;simp only [Prod.mk.injEq] at hx;exact ⟨[],rfl,⟨fun h0=>by simp at h0⟩,fun _=>⟨rfl,rfl⟩,Nat.le_refl _,by rw [hx.1];simp [Rows.uptoBulk]⟩
 ·simp [Value.cells] at hcs
  obtain ⟨rfl,rfl,rfl⟩:=hcs;simp only [Prod.mk.injEq] at hx;simp only [if_true] at hm;subst hm;have each:∀ i,i<n->∃ q:(Option Addr×Nat)×List Ent×Int,W.cell? (a.add (i*2))=some (.slice q.1.1 q.2.1.length q.1.2)/\W.cell? (a.add (i*2+1))=some (.int .i64 q.2.2)/\EL W q.1.1 q.2.1/\q.2.1.length<=q.1.2/\(q.1.1=none->q.2.1.length=0/\q.1.2=0)/\-9223372036854775808<=q.2.2/\q.2.2<9223372036854775808:=by
   intro i hi;obtain ⟨cs',h1,h2⟩:=hel i (by omega)
   rw [cells_h15] at h1;obtain ⟨_,hlen,hcc⟩:=World.cells?_some h1;obtain ⟨y0,y1,fu',_,_,q0,q1⟩:=trod_struct2 underlying62 h2
   match cs',hlen with
   | [u0,u1],_ =>
    simp [cells_es13,cells_i15] at q0 q1
    obtain ⟨bo,c',l,e0,k1,k2,k3,k4⟩:=open_elist q0;obtain ⟨x1,e1,_,w1⟩:=DataW.trod_int underlying3 q1;simp at e0 e1;subst e0 e1;have c0:=hcc 0 (by omega)
    have c1:=hcc 1 (by omega)
    rw [Go.Deep.add_add] at c0 c1;exact ⟨((bo,c'),l,x1),by simpa using c0,by simpa using c1,k1,k2,k3,i64_in15 w1⟩
  have inh:Inhabited ((Option Addr×Nat)×List Ent×Int):=⟨((none,0),[],0)⟩;obtain ⟨q,hq⟩:=Go.Deep.choose_lt each;have ln:((List.range n).map fun i=>(q i).2).length=n:=by simp
  have gt:∀ i,i<n->((List.range n).map fun i=>(q i).2).getD i held0=(q i).2:=fun i hi=>by simp [List.getD,hi]
  refine ⟨(List.range n).map fun i=>(q i).2,ln,⟨fun h0=>?_⟩,(fun e=>by cases e),hl,?_⟩
  ·rw [ln] at h0
   have c0:=(hq 0 h0).1;have e0:a.add (0*2)=a:=by simp [Addr.add]
   rw [e0] at c0;have ea:=spot_none13 c0;refine ⟨a.block,a.off,by rw [<-ea],World.block_lt_of_cell? _ _ c0,fun i hi=>?_⟩
   rw [ln] at hi;rw [gt i hi];obtain ⟨a1,a2,a3,a4,a5,a6⟩:=hq i hi;rw [ea,Addr.add_lit] at a1 a2;exact ⟨(q i).1.1,(q i).1.2,a1,by rw [Nat.add_assoc];exact a2,a3,a4,a5,a6⟩
  ·have:=heft_many ((List.range n).map D)
   rw [hx.1];simp only [Rows.uptoBulk];simp at this;omega
end Go.Proofs.YteflpamjgaeaiaaGreat
