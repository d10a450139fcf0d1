import Derived.Deep.RegionLaw
import Derived.Test.YtaemofgeciklkaaGreatEGMem
import Derived.Test.YtaemofgeciklkaaGreatEPMem
set_option linter.unusedVariables false
open Go.Proofs.Tryz
namespace Go.Proofs.YtaemofgeciklkaaGreat
open Go.RowKit
theorem Jb {P:Program} (w:World) {ops:Array Oper} {o:Oper} {a:Act} {K:Act->World->Prop} {Q:Exit->Act->World->Prop} {E:Prop} (kT:o.guard=none) (s x:Operand) (t:TypeId)
  (ho:o.op=.call { callee:=.builtin .append,args:=#[s,x],argTypes:=#[t,t] })
  (base:Nat) (e:TypeId) (i:TypeInfo) (z:Value) (size bytes:Nat) (ht:P.underlying t=some (.slice e)) (hi:P.info? e=some i) (hz:i.zero=some z)
  (mL:i.size=size) (aJ:i.bytes=bytes) (mM:z.cells.size=size) (cF:0<size)
  (v:Value) (n:Nat) (xs:List Value) (hs:a.eval s=v) (fM:w.ownsRow base e size v n xs)
  (ad:Addr) (m c:Nat) (news:List Value) (hx:a.eval x=.slice (some ad) m c) (hl:news.length=m*size) (jA:∀ j u,news[j]?=some u->w.cell? (ad.add j)=some u) (h1:∀ u∈news,u.oneCell'=true)
  (mO:n+m<=maxLen) (mP:(n+m)*bytes<=140737488355328) (mQ:base<=w.heap.size)
  (h:∀ v' w',w'.ownsRow base e size v' (n+m) (xs++news)->w.grownBy w' v.ownBlock->(v'=.slice none 0 0↔v=.slice none 0 0/\m=0)->(v'.ownBlock=v.ownBlock\/v'.ownBlock=some w.heap.size)->K (a.put o.dst v') w') :
  if Region.wanted o (yielded ops a.tmps)=true then Oper.wp P o a w K Q else E:=by
 have hw:Region.wanted o (yielded ops a.tmps)=true:=by simp [Region.wanted,kT]
 rw [Ym hw];obtain ⟨v',w',hr,h2,h3,h4,h5⟩:=run_append_own_at (P:=P) w base t o.type e i z size bytes ht hi hz mL aJ mM cF v n xs fM ad m c news hl jA h1 mO mP mQ;unfold Oper.wp execOp;simp only [ho,resolve,invoke,builtin,Sem.run_bind,Sem.run_pure,Result.andThen_ok,List.map_toArray,qaw,List.map_nil,hs,hx,hr];exact h v' w' h2 h3 h4 h5
structure C4 {α:Type} (enc:α->Value) (key:α->Int) (ok:α->Prop) (K:FuncId):Prop where
 enter:∀ (args:Array Value) (W:World),(callFunc K args).run prog W=.ok (.enter K args) W
 tells:∀ (W:World) (x:α),ok x->Calls prog K #[enc x] W fun e w'=>e=χ (BY (key x))/\Gw W w'
def ix (e:ah):Value:=.agg #[BY e.k,BY e.v,.bool e.g]
def iy (w:World) (s:aL ah):Prop:=∀ i x,s.l[i]?=some x->w.cell? (φ s.b (s.off+i*3))=some (BY x.k)/\w.cell? (φ s.b (s.off+i*3+1))=some (BY x.v)/\w.cell? (φ s.b (s.off+i*3+2))=some (.bool x.g)
variable {w w':World}
theorem iy.keep {s:aL ah} (h:iy w s) (k:w'.heap[s.b]?=w.heap[s.b]?):iy w' s:=fun i x hx=>by
 have c:∀ o,w'.cell? (φ s.b o)=w.cell? (φ s.b o):=fun o=>qba (a:=⟨s.b,o,none⟩) k
 obtain ⟨h1,h2,h3⟩:=h i x hx;exact ⟨(c _).trans h1,(c _).trans h2,(c _).trans h3⟩
theorem iy.adv {s:aL ah} (h:iy w s):iy w (adv 3 s):=fun i x hx=>by
 have e:s.l[i+1]?=some x:=by
  obtain ⟨b,off,c,l⟩:=s;cases l with
  | nil=>simp [Go.Proofs.YtaemofgeciklkaaGreat.adv] at hx
  | cons y t=>simpa [Go.Proofs.YtaemofgeciklkaaGreat.adv] using hx
 have:=h (i+1) x e
 show w.cell? (φ s.b (s.off+3+i*3))=_/\w.cell? (φ s.b (s.off+3+i*3+1))=_/\w.cell? (φ s.b (s.off+3+i*3+2))=_;rw [show s.off+3+i*3=s.off+(i+1)*3 by omega]
 exact this
section
variable {α:Type}
structure iM (tp th:TypeId) (w W6:World) (hb g cap:Nat) (kf pv:Value) (H:List (Hd α)) (yk:Int) (n1:Nat) (bP:Value) (H1 P1:List (Hd α)) (wr:World):Prop where
 st:ly tp th wr hb kf (ψ g 0 n1 cap) bP H1 P1
 ln:H1.length=n1
 pm:(P1++H1).Perm H
 pk:∀ p∈P1,p.k=yk
 ho:bU H1
 ob:∀ q,bP.ownBlock=some q->pv.ownBlock=some q\/W6.heap.size<=q
 bx:∀ q,w.heap.size<=q->q<W6.heap.size->wr.heap[q]?=W6.heap[q]?
 gx:Gx (iw hb (ψ g 0 0 cap) pv) w wr
 sz:w.heap.size<=W6.heap.size/\W6.heap.size<=wr.heap.size
 gl:g<w.heap.size/\hb<w.heap.size/\g≠hb/\∀ q,pv.ownBlock=some q->q<w.heap.size
variable {tp th:TypeId} {w W6 wr:World} {hb g cap n1:Nat} {kf pv bP:Value} {H H1 P1:List (Hd α)} {yk:Int}
theorem iM.drewN (k:Nat) (h:iM tp th w W6 hb g cap kf pv H yk n1 bP H1 P1 wr):iM tp th w W6 hb g cap kf pv H yk n1 bP H1 P1 (wr.drewN k) :=
 ⟨⟨⟨h.st.hp.blk,h.st.hp.row,h.st.hp.ne⟩,h.st.pr,h.st.ap⟩,h.ln,h.pm,h.pk,h.ho,h.ob,h.bx,⟨h.gx.os,h.gx.tape,h.gx.output,h.gx.size,h.gx.block⟩,h.sz,h.gl⟩
theorem iM.step {m1:Nat} {H2:List (Hd α)} {w4 w7:World} {v':Value} (o:Obj) (h:iM tp th w W6 hb g cap kf pv H yk n1 bP H1 P1 wr) (k0:(gt H1 0).k=yk) (p:(gt H1 0::H2).Perm H1) (h2:bU H2) (l2:H2.length=m1) (m4:eV tp th w4 hb (hb+1) kf (ψ g 0 m1 cap) bP H2) (g4:Gx (fun q=>q=hb\/q=g) wr w4)
  (r1:w7.ownsRow (hb+1) th 3 v' (P1.length+1) (P1.flatMap cW++cW (gt H1 0))) (r2:(w4.alloc o).grownBy w7 bP.ownBlock) (r4:v'.ownBlock=bP.ownBlock\/v'.ownBlock=some (w4.heap.size+1)) :
  w7.heap[hb]?=some (.cells #[kf,ψ g 0 m1 cap,bP] tp (0,0))/\iM tp th w W6 hb g cap kf pv H yk m1 v' H2 (P1++[gt H1 0]) (w7.setCell (φ hb 2) v'):=by
 have hw4:hb<w4.heap.size:=ak m4.blk;have lC:g<w4.heap.size:=(oI m4.row g rfl).2;have pne:=h.st.pne;have b7:w7.heap[hb]?=some (.cells #[kf,ψ g 0 m1 cap,bP] tp (0,0)):=(r2.block hb ζ (fun e=>pne hb e.symm rfl)).trans ((qap _ _ hw4).trans m4.blk)
 have Si:∀ q,bP.ownBlock=some q->q≠g:=fun q hq e=>h.st.ap g rfl (by rw [<-e];exact hq)
 have s4:wr.heap.size<=w4.heap.size:=g4.size;have cF:=h.sz;have lD:=h.gl;have j9:∀ q,v'.ownBlock=some q->pv.ownBlock=some q\/W6.heap.size<=q:=fun q hq=>by
  rcases r4 with e | e
  ·exact h.ob q (by rw [<-e];exact hq)
  ·rw [e] at hq;cases hq;exact .inr ω
 have adF:∀ q,v'.ownBlock=some q->q≠g:=fun q hq=>by
  rcases r4 with e | e
  ·exact Si q (by rw [<-e];exact hq)
  ·rw [e] at hq;cases hq;omega
 have vlt:∀ q,v'.ownBlock=some q->q≠hb:=fun q hq=>by
  rcases r4 with e | e
  ·exact pne q (by rw [<-e];exact hq)
  ·rw [e] at hq;cases hq;omega
 refine ⟨b7,⟨⟨⟨nE b7 _,?_,fun q hq=>by cases hq;exact lD.2.2.1⟩,?_,fun q hq tU=>?_⟩,l2,?_,?_,h2,j9,?_,?_,?_,lD⟩⟩
 ·refine lX m4.row fun q hq=>?_
  cases hq
  exact (qac _ _ _ _ lD.2.2.1).trans ((r2.block g ζ (fun e=>Si g e.symm rfl)).trans (qap _ _ lC))
 ·exact lX (Rp r1) fun q hq=>qac _ _ _ _ (vlt q hq)
 ·cases hq
  exact adF g tU rfl
 ·refine List.Perm.trans ?_ ((List.Perm.append_left P1 p).trans h.pm)
  simp
 ·intro p hp
  rcases qaq.1 hp with q | q
  ·exact h.pk p q
  ·have:p=gt H1 0:=by simpa using q
   rw [this];exact k0
 ·intro q q1 q2
  have qh:q≠hb:=ω;have qg:q≠g:=ω;have qp:some q≠bP.ownBlock:=fun e=>by
   rcases h.ob q e.symm with x | x
   ·have:=lD.2.2.2 q x;omega
   ·omega
  exact (qac _ _ _ _ qh).trans ((r2.block q ζ qp).trans ((qap _ _ ω).trans ((g4.block q ω ω).trans (h.bx q q1 q2))))
 ·refine Gx.set (Gx.grown ((h.gx.trans g4 (fun q hq=>.inl ?_)).tw ⟨(Below.refl _ _).alloc (Yk _) _⟩) r2 (fun q hq=>?_)) (.inl (Or.inl rfl)) _ _
  ·rcases hq with e | e
   ·exact Or.inl e
   ·exact Or.inr (Or.inl (by rw [e];rfl))
  ·rcases h.ob q hq with e | e
   ·exact .inl (Or.inr (Or.inr e))
   ·exact .inr ω
 ·have:=r2.size
  exact ⟨cF.1,by simp [World.setCell] at this ⊢;omega⟩
theorem iM.exit (h:iM tp th w W6 hb g cap kf pv H yk n1 bP H1 P1 wr) (hH:bU H) (hp:0<H.length) (hk:(gt H 0).k=yk) (ex:n1=0\/(gt H1 0).k≠yk):0<P1.length/\∀ x∈H1,x.k≠yk:=by
 have m0:∀ {L:List (Hd α)},0<L.length->gt L 0∈L:=fun {L} hl=>by
  have:gt L 0=L[0]:=by simp [gt,List.getD,hl]
  rw [this];exact qaz _
 have lt:∀ x∈H,yk<=x.k:=fun x hx=>by
  have:=hH.least hx
  simp only [Hd.lt] at this;omega
 constructor
 ·rcases Nat.eq_zero_or_pos P1.length with e | e
  ·have e':P1=[]:=qbh.1 e
   have pm:=h.pm;rw [e',List.nil_append] at pm;have hl:0<H1.length:=(by rw [pm.length_eq];exact hp);rcases ex with x | x
   ·have:=h.ln;omega
   ·have a:=h.ho.least (pm.mem_iff.2 (m0 hp))
    have b:=lt _ (pm.mem_iff.1 (m0 hl));simp only [Hd.lt] at a;omega
  ·exact e
 ·intro x hx
  rcases ex with e | e
  ·have:=h.ln
   have:H1=[]:=qbh.1 ω
   rw [this] at hx;cases hx
  ·have a:=h.ho.least hx
   have hl:0<H1.length:=List.length_pos_of_mem hx;have b:=lt _ (h.pm.mem_iff.1 (qaq.2 (.inr (m0 hl))));simp only [Hd.lt] at a;omega
structure lE (tp th:TypeId) (w W6:World) (hb g gp np cp sz:Nat) (kf pY pZ:Value) (key:α->Int) (H1 P1:List (Hd α)) (j:Nat) (aZ:Value) (Hc:List (Hd α)) (wr:World):Prop where
 st:ly tp th wr hb kf aZ (ψ gp 0 np cp) Hc P1
 pm:Hc.Perm (H1++(P1.take j).flatMap (fun h=>eK key h.i (adv sz h.s)))
 ho:bU Hc
 ob:∀ q,aZ.ownBlock=some q->q=g\/w.heap.size<=q
 og:gp<w.heap.size->pZ.ownBlock=some gp
 bx:∀ q,w.heap.size<=q->q<W6.heap.size->wr.heap[q]?=W6.heap[q]?
 ob2:(∀ q,aZ.ownBlock=some q->q<W6.heap.size->q=g)/\(w.heap.size<=gp->W6.heap.size<=gp)
 gx:Gx (iw hb pY pZ) w wr
 sz:w.heap.size<=W6.heap.size/\W6.heap.size<=wr.heap.size
 gl:g<w.heap.size/\hb<w.heap.size/\pY.ownBlock=some g
variable {gp np cp sz j:Nat} {pY pZ aZ:Value} {key:α->Int} {Hc:List (Hd α)}
theorem lE.few (h:lE tp th w W6 hb g gp np cp sz kf pY pZ key H1 P1 j aZ Hc wr):Hc.length<=H1.length+P1.length:=by
 have e:=h.pm.length_eq;rw [Ψ] at e;have:∀ l:List (Hd α),(l.flatMap (fun h=>eK key h.i (adv sz h.s))).length<=l.length:=by
  intro l;induction l with
  | nil=>exact Yk _
  | cons a l ih =>
   rw [qaK,Ψ,qak];have:(eK key a.i (adv sz a.s)).length<=1:=by unfold eK;split<;>simp
   omega
 have h1:=this (P1.take j);have h2:(P1.take j).length<=P1.length:=by simp;omega
 omega
theorem lE.step {nJ:Value} {H2:List (Hd α)} {w4 w5:World} (h:lE tp th w W6 hb g gp np cp sz kf pY pZ key H1 P1 j aZ Hc wr) (jl:j<P1.length) (g4:Gw wr w4) (p:H2.Perm (Hc++eK key (gt P1 j).i (adv sz (gt P1 j).s))) (h2:bU H2) (m5:eV tp th w5 hb (hb+1) kf nJ (ψ gp 0 np cp) H2) (ob:∀ q,nJ.ownBlock=some q->aZ.ownBlock=some q\/w4.heap.size<=q) (g5:Gx (fun q=>q=hb\/aZ.ownBlock=some q) w4 w5) :
  lE tp th w W6 hb g gp np cp sz kf pY pZ key H1 P1 (j+1) nJ H2 w5:=by
 have cF:=h.sz;have lD:=h.gl;have s4:=g4.size;have gpl:gp<wr.heap.size:=(oI h.st.pr gp rfl).2;have adG:gp≠hb:=h.st.pne gp rfl;have ap:∀ q,aZ.ownBlock=some q->q≠gp:=fun q hq e=>h.st.ap q hq (by rw [e];rfl)
 refine ⟨⟨m5,?_,fun q hq tU=>?_⟩,?_,h2,fun q hq=>?_,h.og,?_,⟨fun q hq ql=>?_,h.ob2.2⟩,?_,⟨cF.1,by have:=g5.size;omega⟩,lD⟩
 ·refine lX h.st.pr fun q hq=>?_
  cases hq
  exact (g5.block gp ω (fun e=>by
   rcases e with e | e
   ·exact adG e
   ·exact ap gp e rfl)).trans (g4.below.block gp gpl)
 ·cases tU
  rcases ob gp hq with e | e
  ·exact ap gp e rfl
  ·omega
 ·have e:P1.take (j+1)=P1.take j++[gt P1 j]:=by rw [qaW,qah jl];simp [gt,List.getD,jl]
  rw [e,List.flatMap_append,<-List.append_assoc];refine p.trans (List.Perm.append h.pm ?_);simp
 ·rcases ob q hq with e | e
  ·exact h.ob q e
  ·exact .inr ω
 ·intro q q1 q2
  have qn:¬ (q=hb\/aZ.ownBlock=some q):=fun e=>by
   rcases e with e | e
   ·omega
   ·have:=h.ob2.1 q e q2;omega
  exact (g5.block q ω qn).trans ((g4.below.block q ω).trans (h.bx q q1 q2))
 ·rcases ob q hq with e | e
  ·exact h.ob2.1 q e ql
  ·omega
 ·refine (h.gx.tw g4).trans g5 (fun q hq=>?_)
  rcases hq with e | e
  ·exact .inl (Or.inl e)
  ·rcases h.ob q e with x | x
   ·exact .inl (Or.inr (Or.inl (by rw [x];exact lD.2.2)))
   ·exact .inr x
theorem lE.fin {W9:World} (h:lE tp th w W6 hb g gp np cp sz kf pY pZ key H1 P1 j aZ Hc wr) (g9:Gx (fun q=>q=w.heap.size) wr W9) (lt:w.heap.size<W6.heap.size) :
  ly tp th W9 hb kf aZ (ψ gp 0 np cp) Hc P1/\(∀ q,iw hb aZ (ψ gp 0 np cp) q->iw hb pY pZ q\/w.heap.size<=q)/\Gx (iw hb pY pZ) w W9:=by
 have lD:=h.gl;refine ⟨h.st.keep fun q hq=>g9.block q (h.st.lt hq).2 (fun e=>?_),fun q hq=>?_,h.gx.trans g9 (fun q hq=>.inr (qad hq.symm))⟩
 ·have e':q=w.heap.size:=e
  rcases hq with x | x | x
  ·omega
  ·have:=h.ob2.1 q x ω;omega
  ·have x':gp=q:=(by injection x);have:=h.ob2.2 ω;omega
 ·rcases hq with x | x | x
  ·exact .inl (Or.inl x)
  ·rcases h.ob q x with y | y
   ·exact .inl (Or.inr (Or.inl (by rw [y];exact lD.2.2)))
   ·exact .inr y
  ·have x':gp=q:=(by injection x);by_cases z:q<w.heap.size
   ·exact .inl (Or.inr (Or.inr (by rw [<-x'];exact h.og ω)))
   ·exact .inr ω
theorem iM.toB {n:Nat} (h:iM tp th w W6 hb g cap kf pv H yk n1 (ψ gp 0 P1.length cp) H1 P1 wr):lE tp th w W6 hb g gp P1.length cp sz kf (ψ g 0 n cap) pv key H1 P1 0 (ψ g 0 n1 cap) H1 wr:=by
 have lD:=h.gl;have cF:=h.sz;refine ⟨h.st,ε,h.ho,fun q hq=>.inl (by cases hq;rfl),fun x=>?_,h.bx,⟨fun q hq _=>by cases hq;rfl,fun x=>?_⟩,h.gx,h.sz,⟨lD.1,lD.2.1,rfl⟩⟩
 ·rcases h.ob gp rfl with y | y
  ·exact y
  ·omega
 ·rcases h.ob gp rfl with y | y
  ·have:=lD.2.2.2 gp y;omega
  ·exact y
def yW (tp th:TypeId) (w:World) (hb K sz:Nat) (hv pv:Value) (H:List (Hd α)) (key:α->Int) (enc:α->Value) (zero:Value) (e:Ending) (w':World):Prop :=
 (H=[]->e=π #[zero,.bool false]/\Gw w w') /\
 (H≠[]->∃ x t aZ kI H' P1 H1,(gt H 0).s.l=x::t/\e=π #[enc x,.bool true]/\(P1++H1).Perm H/\(∀ p∈P1,p.k=(gt H 0).k)/\(∀ h∈H1,h.k≠(gt H 0).k)/\H'.Perm (H1++P1.flatMap (fun h=>eK key h.i (adv sz h.s)))/\bU H'/\ly tp th w' hb (.func (.func K) #[] #[]) aZ kI H' P1/\(∀ q,iw hb aZ kI q->iw hb hv pv q\/w.heap.size<=q)/\Gx (iw hb hv pv) w w')
end
section
variable {α:Type}
structure Jc (El:World->aL α->Prop) (sz:Nat):Prop where
 keep:∀ {w w':World} {s:aL α},El w s->w'.heap[s.b]?=w.heap[s.b]?->El w' s
 adv:∀ {w:World} {s:aL α},El w s->El w (adv sz s)
theorem elpE:Jc iy 3:=⟨fun h k=>h.keep k,fun h=>h.adv⟩
theorem Sj (key:α->Int):∀ (A B:List (aL α)) (i:Nat),cC key i (A++B)=cC key i A++cC key (i+A.length) B
 | [],B,i=>by simp [cC]
 | a::A,B,i=>by rw [List.cons_append,cC,cC,Sj key A B (i+1),qaI,qak,show i+1+A.length=i+(A.length+1) by omega]
def rK (ok:α->Prop) (B:Nat) (s:aL α):Prop:=s.l≠[]->s.b<B/\s.l.length<=s.c/\s.l.length<=4000000/\∀ x∈s.l,ok x
variable {ok:α->Prop}
theorem rK.adv {B:Nat} {s:aL α} (sz:Nat) (h:rK ok B s):rK ok B (adv sz s):=fun ne=>by
 have ne':s.l≠[]:=fun e=>ne (by show s.l.tail=[];rw [e];rfl)
 obtain ⟨h1,h2,h3,h4⟩:=h ne';have e:(Go.Proofs.YtaemofgeciklkaaGreat.adv sz s).l.length=s.l.length-1:=List.length_tail;refine ⟨h1,?_,by rw [e];omega,fun x hx=>h4 x (List.mem_of_mem_tail hx)⟩
 show s.l.tail.length<=s.c-1;rw [List.length_tail];omega
theorem adH (key:α->Int) (sz:Nat) (k:Int) (s:aL α):iI key sz k s=s\/iI key sz k s=adv sz s:=by
 unfold iI;split
 ·exact .inl rfl
 ·split
  ·exact .inr rfl
  ·exact .inl rfl
structure Tl (tp th:TypeId) (El:World->aL α->Prop) (ok:α->Prop) (key:α->Int) (L:List (aL α)) (hb K:Nat) (told:List α) (Lc:List (aL α)) (hv pv:Value) (H P:List (Hd α)) (wr:World):Prop where
 pm:H.Perm (cC key 0 Lc)
 ho:bU H
 st:ly tp th wr hb (.func (.func K) #[] #[]) hv pv H P
 mem:∀ s∈Lc,rK ok hb s
 el:∀ s∈Lc,s.l≠[]->El wr s
 mg:∀ out,Mg key (Lc.map aL.l) out->Mg key (L.map aL.l) (told++out)
 ln:Lc.length=L.length
 tn:told.length+aN (Lc.map aL.l)<=aN (L.map aL.l)
 pl:P.length<=L.length
variable {tp th:TypeId} {El:World->aL α->Prop} {key:α->Int} {L Lc:List (aL α)} {hb K:Nat} {told:List α} {hv pv:Value} {H P:List (Hd α)} {wr:World}
theorem Tl.few (h:Tl tp th El ok key L hb K told Lc hv pv H P wr):H.length<=L.length:=by
 have:=h.pm.length_eq
 have:=Il (key:=key) Lc 0
 have:=h.ln
 omega
variable {sz:Nat} {w':World}
theorem Tl.keep (P':Jc El sz) (h:Tl tp th El ok key L hb K told Lc hv pv H P wr) (k1:∀ q,iw hb hv pv q->w'.heap[q]?=wr.heap[q]?) (k2:∀ s∈Lc,s.l≠[]->w'.heap[s.b]?=wr.heap[s.b]?):Tl tp th El ok key L hb K told Lc hv pv H P w' :=
 ⟨h.pm,h.ho,h.st.keep k1,h.mem,fun s hs ne=>P'.keep (h.el s hs ne) (k2 s hs ne),h.mg,h.ln,h.tn,h.pl⟩
theorem Tl.me (h:Tl tp th El ok key L hb K told Lc hv pv H P wr) (hL:L.length<=3000000):∀ x∈H,(∃ y t,x.s.l=y::t/\x.k=key y)/\x.s.b<hb/\x.s.l.length<=x.s.c/\x.s.l.length<=4000000/\x.i<=4000000/\El wr x.s/\∀ y∈x.s.l,ok y:=by
 intro x hx;obtain ⟨m1,m2,m3,y,t,m4,m5⟩:=Cs (h.pm.mem_iff.1 hx);have ne:x.s.l≠[]:=by rw [m4];simp
 obtain ⟨q1,q2,q3,q4⟩:=h.mem _ m1 ne;have:=h.ln;exact ⟨⟨y,t,m4,m5⟩,q1,q2,q3,ω,h.el _ m1 ne,q4⟩
theorem Tl.over (h:Tl tp th El ok key L hb K told Lc hv pv H P wr) (e:H=[]):Mg key (L.map aL.l) told:=by
 have:cC key 0 Lc=[]:=by
  have:=h.pm
  rw [e] at this;exact List.perm_nil.1 this.symm
 have:=h.mg [] (.done (acE this))
 rwa [qaJ] at this
theorem Tl.next (P':Jc El sz) {enc:α->Value} {zero:Value} {e:Ending} (h:Tl tp th El ok key L hb K told Lc hv pv H P wr) (bG:hb<wr.heap.size) (ne:H≠[]) (r:yW tp th wr hb K sz hv pv H key enc zero e w') :
  ∃ x lH aZ kI H' P',e=π #[enc x,.bool true]/\ok x/\Tl tp th El ok key L hb K (told++[x]) lH aZ kI H' P' w'/\(∀ q,iw hb aZ kI q->iw hb hv pv q\/wr.heap.size<=q)/\Gx (iw hb hv pv) wr w'/\aN (lH.map aL.l)<aN (Lc.map aL.l)/\(∀ s'∈lH,s'.l≠[]->∃ s∈Lc,s.l≠[]/\s'.b=s.b):=by
 obtain ⟨x,t,aZ,kI,H',P1,H1,r1,r2,r3,r4,r5,r6,r7,r8,r9,xG⟩:=r.2 ne;have pF:0<H.length:=qbi.2 ne;have gm:gt H 0∈H:=by
  have:gt H 0=H[0]:=by simp [gt,List.getD,pF]
  rw [this];exact qaz _
 obtain ⟨y,u,l1,l2,l3⟩:=QJ (h.pm.mem_iff.1 gm) (fun z hz=>h.ho.least (h.pm.mem_iff.2 hz))
 have exy:x=y:=by rw [r1] at l1;cases l1;rfl
 subst exy;obtain ⟨g1,_,_,_⟩:=Cs (h.pm.mem_iff.1 gm);have okx:=(h.mem _ g1 (by rw [r1];simp)).2.2.2 x (by rw [r1];exact qat ..)
 have mp:(Lc.map (iI key sz (key x))).map aL.l=(Lc.map aL.l).map (pass key (key x)):=by rw [List.map_map,List.map_map];exact List.map_congr_left fun s _=>acD _ s
 have lt:=Ib l3;have from_:∀ s'∈Lc.map (iI key sz (key x)),s'.l≠[]->∃ s∈Lc,s.l≠[]/\s'.b=s.b/\(s'=s\/s'=adv sz s):=fun s' eI ns=>by
  obtain ⟨s,hs,rfl⟩:=qaA.1 eI;rcases adH key sz (key x) s with e1 | e1
  ·rw [e1] at ns ⊢;exact ⟨s,hs,ns,rfl,.inl rfl⟩
  ·rw [e1] at ns ⊢;exact ⟨s,hs,fun q=>ns (by show s.l.tail=[];rw [q];rfl),rfl,.inr rfl⟩
 refine ⟨x,Lc.map (iI key sz (key x)),aZ,kI,H',P1,r2,okx,⟨?_,r7,r8,fun s' eI ns=>?_,fun s' eI ns=>?_,fun out ho=>?_,by rw [qaS];exact h.ln,?_,?_⟩,r9,xG,?_,fun s' eI ns=>?_⟩
 ·exact acF (h.pm) r3 (fun p hp=>by rw [r4 p hp];exact l2) (fun p hp=>by rw [<-l2];exact r5 p hp) r6
 ·obtain ⟨s,hs,n2,_,q | q⟩:=from_ s' eI ns
  ·rw [q];exact h.mem s hs n2
  ·rw [q];exact (h.mem s hs).adv sz (by rw [<-q];exact ns)
 ·obtain ⟨s,hs,n2,q0,q⟩:=from_ s' eI ns
  have sb:=(h.mem s hs n2).1;have kb:w'.heap[s.b]?=wr.heap[s.b]?:=xG.block _ ω (fun z=>by have:=(h.st.lt z).1;omega)
  rcases q with q | q
  ·rw [q];exact P'.keep (h.el s hs n2) kb
  ·rw [q];exact P'.adv (P'.keep (h.el s hs n2) kb)
 ·rw [mp] at ho
  have:=h.mg (x::out) (.step l3 ho)
  simpa using this
 ·have:=h.tn
  rw [mp,Ψ,List.length_singleton];omega
 ·have e1:=r3.length_eq
  rw [Ψ] at e1;have:=h.few;omega
 ·rw [mp];exact lt
 ·obtain ⟨s,hs,n2,q0,_⟩:=from_ s' eI ns
  exact ⟨s,hs,n2,q0⟩
structure LV (w:World) (ao:Option Addr) (L:List (aL α)):Prop where
 cells:0<L.length->∃ b off,ao=some (φ b off)/\b<w.heap.size/\∀ i (h:i<L.length),∃ bo c,w.cell? (φ b (off+i))=some (.slice bo L[i].l.length c)/\(0<L[i].l.length->bo=some (φ (L[i].b) (L[i].off))/\c=L[i].c)
variable {w:World}
theorem LV.gw {ao:Option Addr} (h:LV w ao L) (g:Gw w w'):LV w' ao L:=⟨fun h0=>by
 obtain ⟨b,off,e,hb,hc⟩:=h.cells h0;refine ⟨b,off,e,Θ hb g.size,fun i hi=>?_⟩
 obtain ⟨bo,c,q1,q2⟩:=hc i hi;exact ⟨bo,c,(g.cell _ _ hb).trans q1,q2⟩⟩
end
