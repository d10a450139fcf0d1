/- Lists of things in memory, and what a function that tells a thing's key does. -/
import Derived.Deep.RegionLaw
import Derived.Maps.AppendAt
import Derived.Test.YtemijdhemdhclaaGreatNGMem
import Derived.Test.YtemijdhemdhclaaGreatNPMem
set_option linter.unusedVariables false
open Go.Proofs.Tryz
namespace Go.Proofs.YtemijdhemdhclaaGreat
open Go.RowKit
theorem step_app {P:Program} (w:World) {ops:Array Oper} {o:Oper} {a:Act} {K:Act->World->Prop} {Q:Exit->Act->World->Prop} {E:Prop} (hgd:o.guard=none) (s x:Operand) (t:TypeId)
  (ho:o.op=.call { callee:=.builtin .append,args:=#[s,x],argTypes:=#[t,t] })
  (base:Nat) (e:TypeId) (i:TypeInfo) (z:Value) (size bytes:Nat) (ht:P.underlying t=some (.slice e)) (hi:P.info? e=some i) (hz:i.zero=some z)
  (hsize:i.size=size) (hby:i.bytes=bytes) (hzs:z.cells.size=size) (hsz:0<size)
  (v:Value) (n:Nat) (xs:List Value) (hs:a.eval s=v) (hown:w.ownsRow base e size v n xs)
  (ad:Addr) (m c:Nat) (news:List Value) (hx:a.eval x=.slice (some ad) m c) (hl:news.length=m*size) (hnews:∀ j u,news[j]?=some u->w.cell? (ad.add j)=some u) (h1:∀ u∈news,u.oneCell'=true)
  (h63:n+m<=maxLen) (hbytes:(n+m)*bytes<=140737488355328) (hbase:base<=w.heap.size)
  (h:∀ v' w',w'.ownsRow base e size v' (n+m) (xs++news)->w.grownBy w' v.ownBlock->(v'=.slice none 0 0↔v=.slice none 0 0/\m=0)->(v'.ownBlock=v.ownBlock\/v'.ownBlock=some w.heap.size)->K (a.put o.dst v') w') :
  if Region.wanted o (yielded ops a.tmps)=true then Oper.wp P o a w K Q else E:=by
 have hw:Region.wanted o (yielded ops a.tmps)=true:=by simp [Region.wanted,hgd]
 rw [if_pos hw];obtain ⟨v',w',hr,h2,h3,h4,h5⟩:=run_append_own_at (P:=P) w base t o.type e i z size bytes ht hi hz hsize hby hzs hsz v n xs hown ad m c news hl hnews h1 h63 hbytes hbase;unfold Oper.wp execOp;simp only [ho,resolve,invoke,builtin,Sem.run_bind,Sem.run_pure,Result.andThen_ok,List.map_toArray,List.map_cons,List.map_nil,hs,hx,hr];exact h v' w' h2 h3 h4 h5
structure FnK {α:Type} (enc:α->Value) (key:α->Int) (ok:α->Prop) (K:FuncId):Prop where
 enter:∀ (args:Array Value) (W:World),(callFunc K args).run prog W=.ok (.enter K args) W
 tells:∀ (W:World) (x:α),ok x->Calls prog K #[enc x] W fun e w'=>e=.returned (.int .u64 (key x))/\Gw W w'
def encE (e:Ent):Value:=.agg #[.int .u64 e.k,.int .u64 e.v,.bool e.g]
def ElE (w:World) (s:Lst Ent):Prop:=∀ i x,s.l[i]?=some x->w.cell? ⟨s.b,s.off+i*3,none⟩=some (.int .u64 x.k)/\w.cell? ⟨s.b,s.off+i*3+1,none⟩=some (.int .u64 x.v)/\w.cell? ⟨s.b,s.off+i*3+2,none⟩=some (.bool x.g)
theorem ElE.keep {w w':World} {s:Lst Ent} (h:ElE w s) (k:w'.heap[s.b]?=w.heap[s.b]?):ElE w' s:=fun i x hx=>by
 have c:∀ o,w'.cell? ⟨s.b,o,none⟩=w.cell? ⟨s.b,o,none⟩:=fun o=>World.cell?_of_block (a:=⟨s.b,o,none⟩) k
 obtain ⟨h1,h2,h3⟩:=h i x hx;exact ⟨(c _).trans h1,(c _).trans h2,(c _).trans h3⟩
theorem ElE.adv {w:World} {s:Lst Ent} (h:ElE w s):ElE w (adv 3 s):=fun i x hx=>by
 have e:s.l[i+1]?=some x:=by
  obtain ⟨b,off,c,l⟩:=s;cases l with
  | nil=>simp [Go.Proofs.YtemijdhemdhclaaGreat.adv] at hx
  | cons y t=>simpa [Go.Proofs.YtemijdhemdhclaaGreat.adv] using hx
 have:=h (i+1) x e
 show w.cell? ⟨s.b,s.off+3+i*3,none⟩=_/\w.cell? ⟨s.b,s.off+3+i*3+1,none⟩=_/\w.cell? ⟨s.b,s.off+3+i*3+2,none⟩=_;rw [show s.off+3+i*3=s.off+(i+1)*3 by omega]
 exact this
section
variable {α:Type}
structure NxA (tp th:TypeId) (w W6:World) (hb g cap:Nat) (kf pv:Value) (H:List (Hd α)) (yk:Int) (n1:Nat) (pv1:Value) (H1 P1:List (Hd α)) (wr:World):Prop where
 st:Hst tp th wr hb kf (.slice (some ⟨g,0,none⟩) n1 cap) pv1 H1 P1
 ln:H1.length=n1
 pm:(P1++H1).Perm H
 pk:∀ p∈P1,p.k=yk
 ho:HeapOn H1
 ob:∀ q,pv1.ownBlock=some q->pv.ownBlock=some q\/W6.heap.size<=q
 bx:∀ q,w.heap.size<=q->q<W6.heap.size->wr.heap[q]?=W6.heap[q]?
 gx:Gx (hpS hb (.slice (some ⟨g,0,none⟩) 0 cap) pv) w wr
 sz:w.heap.size<=W6.heap.size/\W6.heap.size<=wr.heap.size
 gl:g<w.heap.size/\hb<w.heap.size/\g≠hb/\∀ q,pv.ownBlock=some q->q<w.heap.size
theorem NxA.drewN (k:Nat) {tp th:TypeId} {w W6:World} {hb g cap:Nat} {kf pv:Value} {H:List (Hd α)} {yk:Int} {n1:Nat} {pv1:Value} {H1 P1:List (Hd α)} {wr:World} (h:NxA tp th w W6 hb g cap kf pv H yk n1 pv1 H1 P1 wr):NxA tp th w W6 hb g cap kf pv H yk n1 pv1 H1 P1 (wr.drewN k) :=
 ⟨⟨⟨h.st.hp.blk,h.st.hp.row,h.st.hp.ne⟩,h.st.pr,h.st.ap⟩,h.ln,h.pm,h.pk,h.ho,h.ob,h.bx,⟨h.gx.os,h.gx.tape,h.gx.output,h.gx.size,h.gx.block⟩,h.sz,h.gl⟩
theorem NxA.step {tp th:TypeId} {w W6:World} {hb g cap:Nat} {kf pv:Value} {H:List (Hd α)} {yk:Int} {n1 m1:Nat} {pv1:Value} {H1 P1 H2:List (Hd α)} {wr w4 w7:World} {v':Value} (o:Obj) (h:NxA tp th w W6 hb g cap kf pv H yk n1 pv1 H1 P1 wr) (k0:(gt H1 0).k=yk) (p:(gt H1 0::H2).Perm H1) (h2:HeapOn H2) (l2:H2.length=m1) (m4:Hpm tp th w4 hb (hb+1) kf (.slice (some ⟨g,0,none⟩) m1 cap) pv1 H2) (g4:Gx (fun q=>q=hb\/q=g) wr w4)
  (r1:w7.ownsRow (hb+1) th 3 v' (P1.length+1) (P1.flatMap hd3++hd3 (gt H1 0))) (r2:(w4.alloc o).grownBy w7 pv1.ownBlock) (r4:v'.ownBlock=pv1.ownBlock\/v'.ownBlock=some (w4.heap.size+1)) :
  w7.heap[hb]?=some (.cells #[kf,.slice (some ⟨g,0,none⟩) m1 cap,pv1] tp (0,0))/\NxA tp th w W6 hb g cap kf pv H yk m1 v' H2 (P1++[gt H1 0]) (w7.setCell ⟨hb,2,none⟩ v'):=by
 have hw4:hb<w4.heap.size:=blkl m4.blk;have gw4:g<w4.heap.size:=(hr_lt m4.row g rfl).2;have pne:=h.st.pne;have b7:w7.heap[hb]?=some (.cells #[kf,.slice (some ⟨g,0,none⟩) m1 cap,pv1] tp (0,0)):=(r2.block hb (by simp;omega) (fun e=>pne hb e.symm rfl)).trans ((heap_alloc_old _ _ hw4).trans m4.blk)
 have apg:∀ q,pv1.ownBlock=some q->q≠g:=fun q hq e=>h.st.ap g rfl (by rw [<-e];exact hq)
 have s4:wr.heap.size<=w4.heap.size:=g4.size;have hsz:=h.sz;have hgl:=h.gl;have ob':∀ q,v'.ownBlock=some q->pv.ownBlock=some q\/W6.heap.size<=q:=fun q hq=>by
  rcases r4 with e | e
  ·exact h.ob q (by rw [<-e];exact hq)
  ·rw [e] at hq;cases hq;exact .inr (by omega)
 have apg':∀ q,v'.ownBlock=some q->q≠g:=fun q hq=>by
  rcases r4 with e | e
  ·exact apg q (by rw [<-e];exact hq)
  ·rw [e] at hq;cases hq;omega
 have vlt:∀ q,v'.ownBlock=some q->q≠hb:=fun q hq=>by
  rcases r4 with e | e
  ·exact pne q (by rw [<-e];exact hq)
  ·rw [e] at hq;cases hq;omega
 refine ⟨b7,⟨⟨⟨blk_set b7 _,?_,fun q hq=>by cases hq;exact hgl.2.2.1⟩,?_,fun q hq hq'=>?_⟩,l2,?_,?_,h2,ob',?_,?_,?_,hgl⟩⟩
 ·refine hr_keep m4.row fun q hq=>?_
  cases hq
  exact (Go.Deep.blk_setCell_other _ _ _ _ hgl.2.2.1).trans ((r2.block g (by simp;omega) (fun e=>apg g e.symm rfl)).trans (heap_alloc_old _ _ gw4))
 ·exact hr_keep (hr_more r1) fun q hq=>Go.Deep.blk_setCell_other _ _ _ _ (vlt q hq)
 ·cases hq
  exact apg' g hq' rfl
 ·refine List.Perm.trans ?_ ((List.Perm.append_left P1 p).trans h.pm)
  simp
 ·intro p hp
  rcases List.mem_append.1 hp with q | q
  ·exact h.pk p q
  ·have:p=gt H1 0:=by simpa using q
   rw [this];exact k0
 ·intro q q1 q2
  have qh:q≠hb:=by omega
  have qg:q≠g:=by omega
  have qp:some q≠pv1.ownBlock:=fun e=>by
   rcases h.ob q e.symm with x | x
   ·have:=hgl.2.2.2 q x;omega
   ·omega
  exact (Go.Deep.blk_setCell_other _ _ _ _ qh).trans ((r2.block q (by simp;omega) qp).trans ((heap_alloc_old _ _ (by omega)).trans ((g4.block q (by omega) (by omega)).trans (h.bx q q1 q2))))
 ·refine Gx.set (Gx.grown ((h.gx.trans g4 (fun q hq=>.inl ?_)).tw ⟨(Below.refl _ _).alloc (Nat.le_refl _) _⟩) r2 (fun q hq=>?_)) (.inl (Or.inl rfl)) _ _
  ·rcases hq with e | e
   ·exact Or.inl e
   ·exact Or.inr (Or.inl (by rw [e];rfl))
  ·rcases h.ob q hq with e | e
   ·exact .inl (Or.inr (Or.inr e))
   ·exact .inr (by omega)
 ·have:=r2.size
  exact ⟨hsz.1,by simp [World.setCell] at this ⊢;omega⟩
theorem NxA.exit {tp th:TypeId} {w W6:World} {hb g cap:Nat} {kf pv:Value} {H:List (Hd α)} {yk:Int} {n1:Nat} {pv1:Value} {H1 P1:List (Hd α)} {wr:World} (h:NxA tp th w W6 hb g cap kf pv H yk n1 pv1 H1 P1 wr) (hH:HeapOn H) (hp:0<H.length) (hk:(gt H 0).k=yk) (ex:n1=0\/(gt H1 0).k≠yk):0<P1.length/\∀ x∈H1,x.k≠yk:=by
 have m0:∀ {L:List (Hd α)},0<L.length->gt L 0∈L:=fun {L} hl=>by
  have:gt L 0=L[0]:=by simp [gt,List.getD,hl]
  rw [this];exact List.getElem_mem _
 have lt:∀ x∈H,yk<=x.k:=fun x hx=>by
  have:=hH.least hx
  simp only [Hd.lt] at this;omega
 constructor
 ·rcases Nat.eq_zero_or_pos P1.length with e | e
  ·have e':P1=[]:=List.length_eq_zero_iff.1 e
   have pm:=h.pm;rw [e',List.nil_append] at pm;have hl:0<H1.length:=by rw [pm.length_eq];exact hp
   rcases ex with x | x
   ·have:=h.ln;omega
   ·have a:=h.ho.least (pm.mem_iff.2 (m0 hp))
    have b:=lt _ (pm.mem_iff.1 (m0 hl));simp only [Hd.lt] at a;omega
  ·exact e
 ·intro x hx
  rcases ex with e | e
  ·have:=h.ln
   have:H1=[]:=List.length_eq_zero_iff.1 (by omega)
   rw [this] at hx;cases hx
  ·have a:=h.ho.least hx
   have hl:0<H1.length:=List.length_pos_of_mem hx;have b:=lt _ (h.pm.mem_iff.1 (List.mem_append.2 (.inr (m0 hl))));simp only [Hd.lt] at a;omega
structure NxB (tp th:TypeId) (w W6:World) (hb g gp np cp sz:Nat) (kf hv0 pv0:Value) (key:α->Int) (H1 P1:List (Hd α)) (j:Nat) (hv':Value) (Hc:List (Hd α)) (wr:World):Prop where
 st:Hst tp th wr hb kf hv' (.slice (some ⟨gp,0,none⟩) np cp) Hc P1
 pm:Hc.Perm (H1++(P1.take j).flatMap (fun h=>hd1 key h.i (adv sz h.s)))
 ho:HeapOn Hc
 ob:∀ q,hv'.ownBlock=some q->q=g\/w.heap.size<=q
 og:gp<w.heap.size->pv0.ownBlock=some gp
 bx:∀ q,w.heap.size<=q->q<W6.heap.size->wr.heap[q]?=W6.heap[q]?
 ob2:(∀ q,hv'.ownBlock=some q->q<W6.heap.size->q=g)/\(w.heap.size<=gp->W6.heap.size<=gp)
 gx:Gx (hpS hb hv0 pv0) w wr
 sz:w.heap.size<=W6.heap.size/\W6.heap.size<=wr.heap.size
 gl:g<w.heap.size/\hb<w.heap.size/\hv0.ownBlock=some g
theorem NxB.few {tp th:TypeId} {w W6:World} {hb g gp np cp sz:Nat} {kf hv0 pv0:Value} {key:α->Int} {H1 P1:List (Hd α)} {j:Nat} {hv':Value} {Hc:List (Hd α)} {wr:World} (h:NxB tp th w W6 hb g gp np cp sz kf hv0 pv0 key H1 P1 j hv' Hc wr):Hc.length<=H1.length+P1.length:=by
 have e:=h.pm.length_eq;rw [List.length_append] at e;have:∀ l:List (Hd α),(l.flatMap (fun h=>hd1 key h.i (adv sz h.s))).length<=l.length:=by
  intro l;induction l with
  | nil=>exact Nat.le_refl _
  | cons a l ih =>
   rw [List.flatMap_cons,List.length_append,List.length_cons];have:(hd1 key a.i (adv sz a.s)).length<=1:=by unfold hd1;split<;>simp
   omega
 have h1:=this (P1.take j);have h2:(P1.take j).length<=P1.length:=by simp;omega
 omega
theorem NxB.step {tp th:TypeId} {w W6:World} {hb g gp np cp sz:Nat} {kf hv0 pv0:Value} {key:α->Int} {H1 P1:List (Hd α)} {j:Nat} {hv' hv2:Value} {Hc H2:List (Hd α)} {wr w4 w5:World} (h:NxB tp th w W6 hb g gp np cp sz kf hv0 pv0 key H1 P1 j hv' Hc wr) (jl:j<P1.length) (g4:Gw wr w4) (p:H2.Perm (Hc++hd1 key (gt P1 j).i (adv sz (gt P1 j).s))) (h2:HeapOn H2) (m5:Hpm tp th w5 hb (hb+1) kf hv2 (.slice (some ⟨gp,0,none⟩) np cp) H2) (ob:∀ q,hv2.ownBlock=some q->hv'.ownBlock=some q\/w4.heap.size<=q) (g5:Gx (fun q=>q=hb\/hv'.ownBlock=some q) w4 w5) :
  NxB tp th w W6 hb g gp np cp sz kf hv0 pv0 key H1 P1 (j+1) hv2 H2 w5:=by
 have hsz:=h.sz;have hgl:=h.gl;have s4:=g4.size;have gpl:gp<wr.heap.size:=(hr_lt h.st.pr gp rfl).2;have gpne:gp≠hb:=h.st.pne gp rfl;have ap:∀ q,hv'.ownBlock=some q->q≠gp:=fun q hq e=>h.st.ap q hq (by rw [e];rfl)
 refine ⟨⟨m5,?_,fun q hq hq'=>?_⟩,?_,h2,fun q hq=>?_,h.og,?_,⟨fun q hq ql=>?_,h.ob2.2⟩,?_,⟨hsz.1,by have:=g5.size;omega⟩,hgl⟩
 ·refine hr_keep h.st.pr fun q hq=>?_
  cases hq
  exact (g5.block gp (by omega) (fun e=>by
   rcases e with e | e
   ·exact gpne e
   ·exact ap gp e rfl)).trans (g4.below.block gp gpl)
 ·cases hq'
  rcases ob gp hq with e | e
  ·exact ap gp e rfl
  ·omega
 ·have e:P1.take (j+1)=P1.take j++[gt P1 j]:=by
   rw [List.take_add_one,List.getElem?_eq_getElem jl];simp [gt,List.getD,jl]
  rw [e,List.flatMap_append,<-List.append_assoc];refine p.trans (List.Perm.append h.pm ?_);simp
 ·rcases ob q hq with e | e
  ·exact h.ob q e
  ·exact .inr (by omega)
 ·intro q q1 q2
  have qn:¬ (q=hb\/hv'.ownBlock=some q):=fun e=>by
   rcases e with e | e
   ·omega
   ·have:=h.ob2.1 q e q2;omega
  exact (g5.block q (by omega) qn).trans ((g4.below.block q (by omega)).trans (h.bx q q1 q2))
 ·rcases ob q hq with e | e
  ·exact h.ob2.1 q e ql
  ·omega
 ·refine (h.gx.tw g4).trans g5 (fun q hq=>?_)
  rcases hq with e | e
  ·exact .inl (Or.inl e)
  ·rcases h.ob q e with x | x
   ·exact .inl (Or.inr (Or.inl (by rw [x];exact hgl.2.2)))
   ·exact .inr x
theorem NxB.fin {tp th:TypeId} {w W6:World} {hb g gp np cp sz:Nat} {kf hv0 pv0:Value} {key:α->Int} {H1 P1:List (Hd α)} {j:Nat} {hv':Value} {Hc:List (Hd α)} {wr W9:World} (h:NxB tp th w W6 hb g gp np cp sz kf hv0 pv0 key H1 P1 j hv' Hc wr) (g9:Gx (fun q=>q=w.heap.size) wr W9) (lt:w.heap.size<W6.heap.size) :
  Hst tp th W9 hb kf hv' (.slice (some ⟨gp,0,none⟩) np cp) Hc P1/\(∀ q,hpS hb hv' (.slice (some ⟨gp,0,none⟩) np cp) q->hpS hb hv0 pv0 q\/w.heap.size<=q)/\Gx (hpS hb hv0 pv0) w W9:=by
 have hgl:=h.gl;refine ⟨h.st.keep fun q hq=>g9.block q (h.st.lt hq).2 (fun e=>?_),fun q hq=>?_,h.gx.trans g9 (fun q hq=>.inr (Nat.le_of_eq hq.symm))⟩
 ·have e':q=w.heap.size:=e
  rcases hq with x | x | x
  ·omega
  ·have:=h.ob2.1 q x (by omega);omega
  ·have x':gp=q:=by injection x
   have:=h.ob2.2 (by omega);omega
 ·rcases hq with x | x | x
  ·exact .inl (Or.inl x)
  ·rcases h.ob q x with y | y
   ·exact .inl (Or.inr (Or.inl (by rw [y];exact hgl.2.2)))
   ·exact .inr y
  ·have x':gp=q:=by injection x
   by_cases z:q<w.heap.size
   ·exact .inl (Or.inr (Or.inr (by rw [<-x'];exact h.og (by omega))))
   ·exact .inr (by omega)
theorem NxA.toB {tp th:TypeId} {w W6:World} {hb g cap gp cp sz:Nat} {kf pv:Value} {H:List (Hd α)} {yk:Int} {n1:Nat} {H1 P1:List (Hd α)} {wr:World} {key:α->Int} {n:Nat} (h:NxA tp th w W6 hb g cap kf pv H yk n1 (.slice (some ⟨gp,0,none⟩) P1.length cp) H1 P1 wr):NxB tp th w W6 hb g gp P1.length cp sz kf (.slice (some ⟨g,0,none⟩) n cap) pv key H1 P1 0 (.slice (some ⟨g,0,none⟩) n1 cap) H1 wr:=by
 have hgl:=h.gl;have hsz:=h.sz;refine ⟨h.st,by simp,h.ho,fun q hq=>.inl (by cases hq;rfl),fun x=>?_,h.bx,⟨fun q hq _=>by cases hq;rfl,fun x=>?_⟩,h.gx,h.sz,⟨hgl.1,hgl.2.1,rfl⟩⟩
 ·rcases h.ob gp rfl with y | y
  ·exact y
  ·omega
 ·rcases h.ob gp rfl with y | y
  ·have:=hgl.2.2.2 gp y;omega
  ·exact y
def NextR (tp th:TypeId) (w:World) (hb K sz:Nat) (hv pv:Value) (H:List (Hd α)) (key:α->Int) (enc:α->Value) (zero:Value) (e:Ending) (w':World):Prop :=
 (H=[]->e=.returned (.tuple #[zero,.bool false])/\Gw w w') /\
 (H≠[]->∃ x t hv' pv' H' P1 H1,(gt H 0).s.l=x::t/\e=.returned (.tuple #[enc x,.bool true])/\(P1++H1).Perm H/\(∀ p∈P1,p.k=(gt H 0).k)/\(∀ h∈H1,h.k≠(gt H 0).k)/\H'.Perm (H1++P1.flatMap (fun h=>hd1 key h.i (adv sz h.s)))/\HeapOn H'/\Hst tp th w' hb (.func (.func K) #[] #[]) hv' pv' H' P1/\(∀ q,hpS hb hv' pv' q->hpS hb hv pv q\/w.heap.size<=q)/\Gx (hpS hb hv pv) w w')
end
section
variable {α:Type}
structure ElP (El:World->Lst α->Prop) (sz:Nat):Prop where
 keep:∀ {w w':World} {s:Lst α},El w s->w'.heap[s.b]?=w.heap[s.b]?->El w' s
 adv:∀ {w:World} {s:Lst α},El w s->El w (adv sz s)
theorem elpE:ElP ElE 3:=⟨fun h k=>h.keep k,fun h=>h.adv⟩
theorem hds_app (key:α->Int):∀ (A B:List (Lst α)) (i:Nat),hds key i (A++B)=hds key i A++hds key (i+A.length) B
 | [],B,i=>by simp [hds]
 | a::A,B,i=>by
  rw [List.cons_append,hds,hds,hds_app key A B (i+1),List.append_assoc,List.length_cons,show i+1+A.length=i+(A.length+1) by omega]
def LOk (ok:α->Prop) (B:Nat) (s:Lst α):Prop:=s.l≠[]->s.b<B/\s.l.length<=s.c/\s.l.length<=4000000/\∀ x∈s.l,ok x
theorem LOk.adv {ok:α->Prop} {B:Nat} {s:Lst α} (sz:Nat) (h:LOk ok B s):LOk ok B (adv sz s):=fun ne=>by
 have ne':s.l≠[]:=fun e=>ne (by show s.l.tail=[];rw [e];rfl)
 obtain ⟨h1,h2,h3,h4⟩:=h ne';have e:(Go.Proofs.YtemijdhemdhclaaGreat.adv sz s).l.length=s.l.length-1:=List.length_tail;refine ⟨h1,?_,by rw [e];omega,fun x hx=>h4 x (List.mem_of_mem_tail hx)⟩
 show s.l.tail.length<=s.c-1;rw [List.length_tail];omega
theorem passS_cases (key:α->Int) (sz:Nat) (k:Int) (s:Lst α):passS key sz k s=s\/passS key sz k s=adv sz s:=by
 unfold passS;split
 ·exact .inl rfl
 ·split
  ·exact .inr rfl
  ·exact .inl rfl
structure Tl (tp th:TypeId) (El:World->Lst α->Prop) (ok:α->Prop) (key:α->Int) (L:List (Lst α)) (hb K:Nat) (told:List α) (Lc:List (Lst α)) (hv pv:Value) (H P:List (Hd α)) (wr:World):Prop where
 pm:H.Perm (hds key 0 Lc)
 ho:HeapOn H
 st:Hst tp th wr hb (.func (.func K) #[] #[]) hv pv H P
 mem:∀ s∈Lc,LOk ok hb s
 el:∀ s∈Lc,s.l≠[]->El wr s
 mg:∀ out,Mg key (Lc.map Lst.l) out->Mg key (L.map Lst.l) (told++out)
 ln:Lc.length=L.length
 tn:told.length+sizes (Lc.map Lst.l)<=sizes (L.map Lst.l)
 pl:P.length<=L.length
theorem Tl.few {tp th:TypeId} {El:World->Lst α->Prop} {ok:α->Prop} {key:α->Int} {L:List (Lst α)} {hb K:Nat} {told:List α} {Lc:List (Lst α)} {hv pv:Value} {H P:List (Hd α)} {wr:World} (h:Tl tp th El ok key L hb K told Lc hv pv H P wr):H.length<=L.length:=by
 have:=h.pm.length_eq
 have:=hds_len (key:=key) Lc 0
 have:=h.ln
 omega
theorem Tl.keep {tp th:TypeId} {El:World->Lst α->Prop} {sz:Nat} (P':ElP El sz) {ok:α->Prop} {key:α->Int} {L:List (Lst α)} {hb K:Nat} {told:List α} {Lc:List (Lst α)} {hv pv:Value} {H P:List (Hd α)} {wr w':World} (h:Tl tp th El ok key L hb K told Lc hv pv H P wr) (k1:∀ q,hpS hb hv pv q->w'.heap[q]?=wr.heap[q]?) (k2:∀ s∈Lc,s.l≠[]->w'.heap[s.b]?=wr.heap[s.b]?):Tl tp th El ok key L hb K told Lc hv pv H P w' :=
 ⟨h.pm,h.ho,h.st.keep k1,h.mem,fun s hs ne=>P'.keep (h.el s hs ne) (k2 s hs ne),h.mg,h.ln,h.tn,h.pl⟩
theorem Tl.me {tp th:TypeId} {El:World->Lst α->Prop} {ok:α->Prop} {key:α->Int} {L:List (Lst α)} {hb K:Nat} {told:List α} {Lc:List (Lst α)} {hv pv:Value} {H P:List (Hd α)} {wr:World} (h:Tl tp th El ok key L hb K told Lc hv pv H P wr) (hL:L.length<=3000000):∀ x∈H,(∃ y t,x.s.l=y::t/\x.k=key y)/\x.s.b<hb/\x.s.l.length<=x.s.c/\x.s.l.length<=4000000/\x.i<=4000000/\El wr x.s/\∀ y∈x.s.l,ok y:=by
 intro x hx;obtain ⟨m1,m2,m3,y,t,m4,m5⟩:=hds_mem (h.pm.mem_iff.1 hx);have ne:x.s.l≠[]:=by rw [m4];simp
 obtain ⟨q1,q2,q3,q4⟩:=h.mem _ m1 ne;have:=h.ln;exact ⟨⟨y,t,m4,m5⟩,q1,q2,q3,by omega,h.el _ m1 ne,q4⟩
theorem Tl.over {tp th:TypeId} {El:World->Lst α->Prop} {ok:α->Prop} {key:α->Int} {L:List (Lst α)} {hb K:Nat} {told:List α} {Lc:List (Lst α)} {hv pv:Value} {H P:List (Hd α)} {wr:World} (h:Tl tp th El ok key L hb K told Lc hv pv H P wr) (e:H=[]):Mg key (L.map Lst.l) told:=by
 have:hds key 0 Lc=[]:=by
  have:=h.pm
  rw [e] at this;exact List.perm_nil.1 this.symm
 have:=h.mg [] (.done (hds_nil this))
 rwa [List.append_nil] at this
theorem Tl.next {tp th:TypeId} {El:World->Lst α->Prop} {sz:Nat} (P':ElP El sz) {ok:α->Prop} {key:α->Int} {L:List (Lst α)} {hb K:Nat} {told:List α} {Lc:List (Lst α)} {hv pv:Value} {H P:List (Hd α)} {wr w':World} {enc:α->Value} {zero:Value} {e:Ending} (h:Tl tp th El ok key L hb K told Lc hv pv H P wr) (hbl:hb<wr.heap.size) (ne:H≠[]) (r:NextR tp th wr hb K sz hv pv H key enc zero e w') :
  ∃ x Lc' hv' pv' H' P',e=.returned (.tuple #[enc x,.bool true])/\ok x/\Tl tp th El ok key L hb K (told++[x]) Lc' hv' pv' H' P' w'/\(∀ q,hpS hb hv' pv' q->hpS hb hv pv q\/wr.heap.size<=q)/\Gx (hpS hb hv pv) wr w'/\sizes (Lc'.map Lst.l)<sizes (Lc.map Lst.l)/\(∀ s'∈Lc',s'.l≠[]->∃ s∈Lc,s.l≠[]/\s'.b=s.b):=by
 obtain ⟨x,t,hv',pv',H',P1,H1,r1,r2,r3,r4,r5,r6,r7,r8,r9,r10⟩:=r.2 ne;have hpos:0<H.length:=List.length_pos_iff.2 ne;have gm:gt H 0∈H:=by
  have:gt H 0=H[0]:=by simp [gt,List.getD,hpos]
  rw [this];exact List.getElem_mem _
 obtain ⟨y,u,l1,l2,l3⟩:=hds_least (h.pm.mem_iff.1 gm) (fun z hz=>h.ho.least (h.pm.mem_iff.2 hz))
 have exy:x=y:=by rw [r1] at l1;cases l1;rfl
 subst exy;obtain ⟨g1,_,_,_⟩:=hds_mem (h.pm.mem_iff.1 gm);have okx:=(h.mem _ g1 (by rw [r1];simp)).2.2.2 x (by rw [r1];exact List.mem_cons_self ..)
 have mp:(Lc.map (passS key sz (key x))).map Lst.l=(Lc.map Lst.l).map (pass key (key x)):=by
  rw [List.map_map,List.map_map];exact List.map_congr_left fun s _=>passS_l _ s
 have lt:=passes_lt l3;have from_:∀ s'∈Lc.map (passS key sz (key x)),s'.l≠[]->∃ s∈Lc,s.l≠[]/\s'.b=s.b/\(s'=s\/s'=adv sz s):=fun s' hs' ns=>by
  obtain ⟨s,hs,rfl⟩:=List.mem_map.1 hs';rcases passS_cases key sz (key x) s with e1 | e1
  ·rw [e1] at ns ⊢;exact ⟨s,hs,ns,rfl,.inl rfl⟩
  ·rw [e1] at ns ⊢;exact ⟨s,hs,fun q=>ns (by show s.l.tail=[];rw [q];rfl),rfl,.inr rfl⟩
 refine ⟨x,Lc.map (passS key sz (key x)),hv',pv',H',P1,r2,okx,⟨?_,r7,r8,fun s' hs' ns=>?_,fun s' hs' ns=>?_,fun out ho=>?_,by rw [List.length_map];exact h.ln,?_,?_⟩,r9,r10,?_,fun s' hs' ns=>?_⟩
 ·exact hds_next (h.pm) r3 (fun p hp=>by rw [r4 p hp];exact l2) (fun p hp=>by rw [<-l2];exact r5 p hp) r6
 ·obtain ⟨s,hs,n2,_,q | q⟩:=from_ s' hs' ns
  ·rw [q];exact h.mem s hs n2
  ·rw [q];exact (h.mem s hs).adv sz (by rw [<-q];exact ns)
 ·obtain ⟨s,hs,n2,q0,q⟩:=from_ s' hs' ns
  have sb:=(h.mem s hs n2).1;have kb:w'.heap[s.b]?=wr.heap[s.b]?:=r10.block _ (by omega) (fun z=>by have:=(h.st.lt z).1;omega)
  rcases q with q | q
  ·rw [q];exact P'.keep (h.el s hs n2) kb
  ·rw [q];exact P'.adv (P'.keep (h.el s hs n2) kb)
 ·rw [mp] at ho
  have:=h.mg (x::out) (.step l3 ho)
  simpa using this
 ·have:=h.tn
  rw [mp,List.length_append,List.length_singleton];omega
 ·have e1:=r3.length_eq
  rw [List.length_append] at e1;have:=h.few;omega
 ·rw [mp];exact lt
 ·obtain ⟨s,hs,n2,q0,_⟩:=from_ s' hs' ns
  exact ⟨s,hs,n2,q0⟩
structure LV (w:World) (ao:Option Addr) (L:List (Lst α)):Prop where
 cells:0<L.length->∃ b off,ao=some ⟨b,off,none⟩/\b<w.heap.size/\∀ i (h:i<L.length),∃ bo c,w.cell? ⟨b,off+i,none⟩=some (.slice bo L[i].l.length c)/\(0<L[i].l.length->bo=some ⟨L[i].b,L[i].off,none⟩/\c=L[i].c)
theorem LV.gw {w w':World} {ao:Option Addr} {L:List (Lst α)} (h:LV w ao L) (g:Gw w w'):LV w' ao L:=⟨fun h0=>by
 obtain ⟨b,off,e,hb,hc⟩:=h.cells h0;refine ⟨b,off,e,Nat.lt_of_lt_of_le hb g.size,fun i hi=>?_⟩
 obtain ⟨bo,c,q1,q2⟩:=hc i hi;exact ⟨bo,c,(g.cell _ _ hb).trans q1,q2⟩⟩
end
end Go.Proofs.YtemijdhemdhclaaGreat
