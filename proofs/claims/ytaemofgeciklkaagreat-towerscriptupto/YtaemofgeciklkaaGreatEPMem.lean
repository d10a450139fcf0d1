import Derived.Lib.SmallJoins
import Derived.Test.YtaemofgeciklkaaGreatEPBs
import Derived.Test.YtaemofgeciklkaaGreatEGPlain
set_option linter.unusedVariables false
namespace Go.Proofs.YtaemofgeciklkaaGreat
open Go.RowKit
structure Gx (S:Nat->Prop) (w w':World):Prop where
 os:w'.os=w.os
 tape:w'.tape=w.tape
 output:w'.output=w.output
 size:w.heap.size<=w'.heap.size
 block:∀ q,q<w.heap.size->¬ S q->w'.heap[q]?=w.heap[q]?
theorem Gx.refl (S:Nat->Prop) (w:World):Gx S w w:=⟨rfl,rfl,rfl,Yk _,fun _ _ _=>rfl⟩
variable {w w':World}
theorem Gw.gx (h:Gw w w') (S:Nat->Prop):Gx S w w':=⟨h.below.os,h.below.tape,h.below.output,h.below.size,fun q hq _=>h.below.block q hq⟩
variable {S:Nat->Prop} {b:World}
theorem Gx.trans {S':Nat->Prop} {a c:World} (h:Gx S a b) (k:Gx S' b c) (e:∀ q,S' q->S q\/a.heap.size<=q):Gx S a c :=
 ⟨k.os.trans h.os,k.tape.trans h.tape,k.output.trans h.output,Φ h.size k.size,fun q hq hs=>(k.block q (Θ hq h.size) (fun x=>by
  rcases e q x with y | y
  ·exact hs y
  ·omega)).trans (h.block q hq hs)⟩
theorem Gx.mono {S':Nat->Prop} {a:World} (h:Gx S a b) (e:∀ q,S q->S' q\/a.heap.size<=q):Gx S' a b :=
 ⟨h.os,h.tape,h.output,h.size,fun q hq hs=>h.block q hq (fun x=>by
  rcases e q x with y | y
  ·exact hs y
  ·omega)⟩
theorem Gx.tw {a c:World} (h:Gx S a b) (k:Gw b c):Gx S a c:=h.trans (k.gx fun _=>False) (fun _ x=>x.elim)
variable {W:World}
theorem Gx.gw (h:Gw W w) (g:Gx S w w') (hS:∀ q,S q->W.heap.size<=q):Gw W w' :=
 ⟨⟨g.os.trans h.below.os,g.tape.trans h.below.tape,g.output.trans h.below.output,Φ h.size g.size,fun q hq=>(g.block q (Θ hq h.size) (fun x=>by have:=hS q x;omega)).trans (h.below.block q hq)⟩⟩
variable {q:Nat}
theorem Gx.set (h:Gx S w w') (hq:S q\/w.heap.size<=q) (o:Nat) (v:Value):Gx S w (w'.setCell (φ q o) v) :=
 ⟨h.os,h.tape,h.output,by simpa [World.setCell] using h.size,fun k hk hs=>(qac _ _ _ _ (fun e=>by
  have e':k=q:=e;rcases hq with x | x
  ·exact hs (by rw [e'];exact x)
  ·omega)).trans (h.block k hk hs)⟩
theorem Gx.grown {dW:World} {row:Option Nat} (h:Gx S w w') (g:w'.grownBy dW row) (hr:∀ k,row=some k->S k\/w.heap.size<=k):Gx S w dW :=
 ⟨g.os.trans h.os,g.tape.trans h.tape,g.output.trans h.output,Φ h.size g.size,fun k hk hs=>(g.block k (Θ hk h.size) (fun e=>by
  rcases hr k e.symm with x | x
  ·exact hs x
  ·omega)).trans (h.block k hk hs)⟩
theorem Gx.drew (h:Gx S w w'):Gx S w w'.drew:=⟨h.os,h.tape,h.output,h.size,h.block⟩
theorem Gx.alloc (h:Gx S w w') (c:Array Value) (t:TypeId):Gx S w (w'.alloc (.cells c t)):=h.tw ((Gw.refl _).alloc _ _)
variable {k:Nat} {vs:Array Value} {t:TypeId}
theorem aj {o:Nat} {v:Value} (h:W.heap[k]?=some (.cells vs t (0,0))) (hv:vs[o]?=some v):W.cell? (φ k o)=some v:=by simp [World.cell?,h,hv]
theorem bC {o:Nat} (h:W.heap[k]?=some (.cells vs t (0,0))):W.frozen? (φ k o)=false:=by simp [World.frozen?,h]
theorem ak {o:Obj} (h:W.heap[k]?=some o):k<W.heap.size:=(qab.1 h).1
section
variable {α:Type}
def aL.v (s:aL α):Value:=ψ s.b s.off s.l.length s.c
def cW (h:Hd α):List Value:=[BY h.k,By (h.i:Int),h.s.v]
def Hd.v (h:Hd α):Value:=.agg #[BY h.k,By (h.i:Int),ψ h.s.b h.s.off h.s.l.length h.s.c]
theorem Rm (h:Hd α):∀ u∈cW h,u.oneCell'=true:=by intro u hu;simp only [cW,qaf,List.not_mem_nil,or_false] at hu;rcases hu with rfl | rfl | rfl<;>rfl
def HR (t:TypeId) (w:World) (base:Nat) (v:Value) (H:List (Hd α)):Prop:=w.ownsRow base t 3 v H.length (H.flatMap cW)
variable {t:TypeId} {w w':World} {base:Nat}
theorem lX {v:Value} {H:List (Hd α)} (h:HR t w base v H) (k:∀ q,v.ownBlock=some q->w'.heap[q]?=w.heap[q]?):HR t w' base v H:=by
 refine ⟨h.1,?_⟩;rcases h.2 with q | ⟨b,cap,cur,rfl,hb,hh,r⟩
 ·exact .inl q
 ·exact .inr ⟨b,cap,cur,rfl,hb,(k b rfl).trans hh,r⟩
theorem oI {v:Value} {H:List (Hd α)} (h:HR t w base v H):∀ q,v.ownBlock=some q->base<=q/\q<w.heap.size:=World.ownsRow.lt h
theorem vV {v:Value} {H:List (Hd α)} (h:HR t w base v H) (g:Gw w w'):HR t w' base v H:=lX h fun q hq=>g.below.block q (oI h q hq).2
variable {S:Nat->Prop}
theorem ac8 {v:Value} {H:List (Hd α)} (h:HR t w base v H) (g:Gx S w w') (no:∀ q,v.ownBlock=some q->¬ S q):HR t w' base v H:=lX h fun q hq=>g.block q (oI h q hq).2 (no q hq)
theorem ac9:∀ (l:List (Hd α)) (i:Nat),i<l.length->∀ j,j<3->(l.flatMap cW)[i*3+j]?=(cW (gt l i))[j]?:=by
 intro l;induction l with
 | nil=>intro i hi;simp at hi
 | cons s l ih =>
  intro i hi j hj;rw [qaK];cases i with
  | zero =>
   rw [qaR,qai,qau (by show j<3;exact hj)]
   rfl
  | succ i =>
   have e:(i+1)*3+j=i*3+j+3:=ω;rw [e,qaZ (by show 3<=_;omega),show i*3+j+3-(cW s).length=i*3+j by show i*3+j+3-3=_;omega]
   exact ih i (by simpa using hi) j hj
theorem Ro {v:Value} {H:List (Hd α)} (h:HR t w base v H) (h0:0<H.length):∃ b cap,v=ψ b 0 H.length cap/\H.length<=cap/\base<=b/\b<w.heap.size:=by
 rcases h.2 with ⟨_,z⟩ | ⟨b,cap,cur,e,hb,hh,hc,_⟩
 ·omega
 ·exact ⟨b,cap,e,hc,hb,(qab.1 hh).1⟩
variable {n cap:Nat}
theorem fG {b:Nat} {H:List (Hd α)} (h:HR t w base (ψ b 0 n cap) H) (hn:H.length=n):(∀ i,w.frozen? (φ b i)=false)/\n<=cap/\b<w.heap.size/\∀ i,i<n->w.cell? (φ b (i*3))=some (BY (gt H i).k)/\w.cell? (φ b (i*3+1))=some (By ((gt H i).i:Int))/\w.cell? (φ b (i*3+2))=some (gt H i).s.v:=by
 subst hn;rcases h.2 with ⟨z,_⟩ | ⟨g,gH,cur,e,hb,hh,r⟩
 ·cases z
 ·injection e with e1 e2 e3
  injection e1 with e1;injection e1 with e1;subst e1 e3;have c':∀ i,i<H.length->∀ j,j<3->w.cell? (φ b (i*3+j))=(cW (gt H i))[j]?:=fun i hi j hj=>by
   have:=World.ownsRow.cellAt h (i*3+j) ω
   rw [this];exact ac9 H i hi j hj
  exact ⟨fun i=>by simp [World.frozen?,hh],r.1,(qab.1 hh).1,fun i hi=>⟨c' i hi 0 γ,c' i hi 1 γ,c' i hi 2 γ⟩⟩
theorem ac':∀ (l:List (Hd α)) (k:Nat) (s:Hd α),k<l.length->(((l.flatMap cW).set (k*3) (BY s.k)).set (k*3+1) (By (s.i:Int))).set (k*3+2) s.s.v=(l.set k s).flatMap cW:=by
 intro l;induction l with
 | nil=>intro k s hk;simp at hk
 | cons t l ih =>
  intro k s hk;cases k with
  | zero=>simp [cW]
  | succ k =>
   have:=ih k s (by simpa using hk)
   rw [List.set_cons_succ,qaK,qaK,<-this];have e:∀ r,(k+1)*3+r=k*3+r+3:=fun r=>ω
   have e0:(k+1)*3=k*3+3:=ω;rw [e 1,e 2,e0];simp [cW]
def lu (w:World) (g o:Nat) (s:Hd α):World:=((w.setCell (φ g o) (BY s.k)).setCell (φ g (o+1)) (By (s.i:Int))).setCell (φ g (o+2)) s.s.v
variable {g k:Nat}
theorem CJ {H:List (Hd α)} (h:HR t w base (ψ g 0 n cap) H) (hn:H.length=n) (hk:k<n) (s:Hd α):HR t (lu w g (k*3) s) base (ψ g 0 n cap) (H.set k s):=by subst hn;have h':w.ownsRow base t 3 (ψ g 0 H.length cap) H.length (H.flatMap cW):=h;have r:=(((h'.stored (k*3) (BY s.k)).1.stored (k*3+1) (By (s.i:Int))).1.stored (k*3+2) s.s.v).1;rw [ac' H k s hk] at r;show World.ownsRow _ _ _ _ _ _ _;rw [List.length_set];exact r
theorem IC (h:Gx S w w') (hg:S g\/w.heap.size<=g) (o:Nat) (s:Hd α):Gx S w (lu w' g o s):=((h.set hg _ _).set hg _ _).set hg _ _
theorem Rp {v:Value} {H:List (Hd α)} {x:Hd α} (h:w.ownsRow base t 3 v (H.length+1) (H.flatMap cW++cW x)):HR t w base v (H++[x]):=by show World.ownsRow _ _ _ _ _ _ _;rw [Ψ,List.flatMap_append];simpa using h
theorem ID:∀ (l:List (Hd α)) (k:Nat),(l.take k).flatMap cW=(l.flatMap cW).take (k*3)
 | [],k=>ε
 | s::l,0=>ε
 | s::l,k+1=>by rw [qbj,qaK,qaK,ID l k,show (k+1)*3=(cW s).length+k*3 by show _=3+_;omega,List.take_length_add_append]
theorem Rq {H:List (Hd α)} (h:HR t w base (ψ g 0 n cap) H) (hn:H.length=n) (k:Nat) (hk:k<=n):HR t w base (ψ g 0 k cap) (H.take k):=by
 subst hn;have e:(H.take k).length=k:=by simp;omega
 show World.ownsRow _ _ _ _ _ _ _;rw [e];rcases h.2 with ⟨z,_⟩ | ⟨b,gH,cur,e1,hb,hh,hc,hm,hs,ht⟩
 ·cases z
 ·injection e1 with q1 q2 q3
  injection q1 with q1;injection q1 with q1;subst q1 q3;refine ⟨?_,.inr ⟨g,cap,cur,rfl,hb,hh,ω,hm,hs,?_⟩⟩
  ·rw [ID,<-ht];simp;omega
  ·rw [ID,<-ht,List.take_take,qaU ω]
theorem IE (t:TypeId) (w:World) (base:Nat):HR t w base (.slice none 0 0) ([]:List (Hd α)):=qaL w base t 3
theorem Rr (t:TypeId) (w:World) (h:Hd α):∀ j u,(cW h)[j]?=some u->(w.alloc (.cells #[BY h.k,By (h.i:Int),ψ h.s.b h.s.off h.s.l.length h.s.c] t)).cell? ((⟨w.heap.size,0,none⟩:Addr).add j)=some u:=by
 intro j u hu
 match j,hu with
 | 0,hu=>simp [cW] at hu;subst hu;simp [Addr.add,go_sem]
 | 1,hu=>simp [cW] at hu;subst hu;simp [Addr.add,go_sem]
 | 2,hu=>simp [cW,aL.v] at hu;subst hu;simp [Addr.add,go_sem]
 | j+3,hu=>simp [cW] at hu
end
variable {α:Type}
theorem Hd.lt.trans {a b c:Hd α} (h:a.lt b) (k:b.lt c):a.lt c:=by simp only [Hd.lt] at *;omega
def fW {α:Type} (H:List (Hd α)) (a j f:Nat):Prop:=(f=a\/(a<f/\f<H.length/\(f-1)/2=a/\(gt H f).lt (gt H a)))/\∀ c,2*a+1<=c->c<=2*a+j->c<H.length->¬ (gt H c).lt (gt H f)
theorem fW.start (H:List (Hd α)) (a:Nat):fW H a 0 a:=⟨.inl rfl,fun c h1 h2 _=>ω⟩
variable {a j f c:Nat}
theorem fW.o {H:List (Hd α)} (h:fW H a j f) (hc:c=2*a+1+j) (no:¬ c<H.length):fW H a (j+1) f:=⟨h.1,fun d h1 h2 h3=>h.2 d h1 ω h3⟩
theorem fW.stay {H:List (Hd α)} (h:fW H a j f) (hc:c=2*a+1+j) (no:¬ (gt H c).lt (gt H f)):fW H a (j+1) f:=⟨h.1,fun d h1 h2 h3=>by
 by_cases q:d=c
 ·rw [q];exact no
 ·exact h.2 d h1 ω h3⟩
theorem fW.turn {H:List (Hd α)} (h:fW H a j f) (hj:j<2) (hc:c=2*a+1+j) (cl:c<H.length) (lt:(gt H c).lt (gt H f)):fW H a (j+1) c:=by
 refine ⟨.inr ⟨ω,cl,ω,?_⟩,fun d h1 h2 h3=>?_⟩
 ·rcases h.1 with q | ⟨_,_,_,q⟩
  ·rw [q] at lt;exact lt
  ·exact lt.trans q
 ·by_cases q:d=c
  ·rw [q];simp only [Hd.lt];omega
  ·exact Hd.nlt_lt (h.2 d h1 ω h3) lt
theorem fW.done {H:List (Hd α)} (h:fW H a 2 f):Ij H a f:=by
 rcases h.1 with rfl | ⟨q1,q2,q3,q4⟩
 ·exact .inl ⟨rfl,fun c c0 cl e=>h.2 c ω ω cl⟩
 ·exact .inr ⟨q1,q2,q3,q4,fun c c0 cl e=>h.2 c ω ω cl⟩
theorem fW.lt {H:List (Hd α)} (h:fW H a j f) (hc:c=2*a+1+j) (cl:c<H.length):f<H.length:=by
 rcases h.1 with q | ⟨_,q,_⟩
 ·omega
 ·exact q
structure eV {α:Type} (tp th:TypeId) (w:World) (hb base:Nat) (kf hv pv:Value) (H:List (Hd α)):Prop where
 blk:w.heap[hb]?=some (.cells #[kf,hv,pv] tp (0,0))
 row:HR th w base hv H
 ne:∀ q,hv.ownBlock=some q->q≠hb
variable {W:World} {q g:Nat}
theorem Rs {o:Nat} {s:Hd α} (h:q≠g):(lu W g o s).heap[q]?=W.heap[q]?:=by unfold lu;rw [qac _ _ _ _ h,qac _ _ _ _ h,qac _ _ _ _ h]
variable {t:TypeId} {w:World} {base cap n:Nat}
theorem ada {i:Nat} {H:List (Hd α)} (h:HR t w base (ψ g 0 n cap) H) (hn:H.length=n) (hi:i<n) (hj:j<n):HR t (lu (lu w g (i*3) (gt H j)) g (j*3) (gt H i)) base (ψ g 0 n cap) (swp H i j) :=
 CJ (CJ h hn hi (gt H j)) (by simpa using hn) hj (gt H i)
theorem Rt {i:Nat} {H:List (Hd α)} (h:HR t w base (ψ g 0 n cap) H) (hn:H.length=n) (hi:i<n) (hj:j<n) (ne:j≠i) {x y:Hd α} (hx:gt H i=x) (hy:gt H j=y) :
  ∃ W1 W2,lu w g (i*3) y=W1/\lu W1 g (j*3) x=W2/\HR t W2 base (ψ g 0 n cap) (swp H i j)/\(∀ q,q≠g->W1.heap[q]?=w.heap[q]?)/\(∀ o,W1.frozen? (φ g o)=false)/\(W1.cell? (φ g (j*3))=some (BY y.k)/\W1.cell? (φ g (j*3+1))=some (By (y.i:Int))/\W1.cell? (φ g (j*3+2))=some y.s.v)/\Gx (fun q=>q=g) w W2:=by
 have h1:=CJ h hn hi (gt H j);have c:=fG h1 (by simpa using hn)
 have s:=ada h hn hi hj;rw [hy] at h1 c;rw [hx,hy] at s;refine ⟨_,_,rfl,rfl,s,fun q hq=>Rs hq,c.1,?_,IC (IC (Gx.refl (fun q=>q=g) _) (.inl rfl) _ _) (.inl rfl) _ _⟩
 have:=c.2.2.2 j hj
 rw [yH _ _ _ ω,Yl ne,hy] at this;exact this
variable {vs:Array Value}
theorem nE {b o:Nat} (h:w.heap[b]?=some (.cells vs t (0,0))) (u:Value):(w.setCell (φ b o) u).heap[b]?=some (.cells (vs.setIfInBounds o u) t (0,0)):=by simp [World.setCell,Array.getElem?_modify,h]
variable {tp:TypeId} {hb:Nat} {kf pv:Value}
theorem adb {m:Nat} {H:List (Hd α)} (h:HR t w base (ψ g 0 n cap) H) (hn:H.length=n) (h1:1<=n) (hm:m=n-1) (iv:g≠hb) (pt:w.heap[hb]?=some (.cells #[kf,ψ g 0 n cap,pv] tp (0,0))) {y:Hd α} (hy:gt H m=y) :
  ∃ W1 W2,lu w g 0 y=W1/\W1.setCell (φ hb 1) (ψ g 0 m cap)=W2/\W1.cell? (φ hb 1)=some (ψ g 0 n cap)/\W1.frozen? (φ hb 1)=false/\eV tp t W2 hb base kf (ψ g 0 m cap) pv (nz H)/\Gx (fun q=>q=hb\/q=g) w W2:=by
 have k1:=CJ (k:=0) h hn ω (gt H m);rw [qaR,hy] at k1;have b1:(lu w g 0 y).heap[hb]?=some (.cells #[kf,ψ g 0 n cap,pv] tp (0,0)):=(Rs (fun e=>iv e.symm)).trans pt
 have k2:=Rq k1 (by simpa using hn) m ω
 have e:nz H=(H.set 0 y).take m:=by unfold nz;rw [hn,<-hm,hy]
 refine ⟨_,_,rfl,rfl,aj b1 rfl,bC b1,⟨?_,?_,fun q hq=>?_⟩,?_⟩
 ·exact nE b1 _
 ·rw [e]
  exact lX k2 fun q hq=>qac _ _ _ _ (by cases hq;exact iv)
 ·cases hq;exact iv
 ·exact (IC (Gx.refl _ _) (.inl (Or.inr rfl)) _ _).set (.inl (Or.inl rfl)) _ _
theorem Ru {v:Value} {H:List (Hd α)} (h:HR t w base v H):v=.slice none 0 0/\H.length=0\/∃ g cap,v=ψ g 0 H.length cap/\H.length<=cap:=by
 rcases h.2 with q | ⟨g,cap,cur,e,_,_,hc,_⟩
 ·exact .inl q
 ·exact .inr ⟨g,cap,e,hc⟩
structure ly {α:Type} (tp th:TypeId) (w:World) (hb:Nat) (kf hv pv:Value) (H P:List (Hd α)):Prop where
 hp:eV tp th w hb (hb+1) kf hv pv H
 pr:HR th w (hb+1) pv P
 ap:∀ q,hv.ownBlock=some q->pv.ownBlock=some q->False
variable {th:TypeId} {hv:Value}
theorem ly.pne {H P:List (Hd α)} (h:ly tp th w hb kf hv pv H P):∀ q,pv.ownBlock=some q->q≠hb:=fun q hq=>by have:=(oI h.pr q hq).1;omega
def iw (hb:Nat) (hv pv:Value) (q:Nat):Prop:=q=hb\/hv.ownBlock=some q\/pv.ownBlock=some q
variable {w':World}
theorem ly.keep {H P:List (Hd α)} (h:ly tp th w hb kf hv pv H P) (k:∀ q,iw hb hv pv q->w'.heap[q]?=w.heap[q]?):ly tp th w' hb kf hv pv H P :=
 ⟨⟨(k hb (.inl rfl)).trans h.hp.blk,lX h.hp.row fun q hq=>k q (.inr (.inl hq)),h.hp.ne⟩,lX h.pr fun q hq=>k q (.inr (.inr hq)),h.ap⟩
theorem ly.lt {H P:List (Hd α)} (h:ly tp th w hb kf hv pv H P) (hq:iw hb hv pv q):hb<=q/\q<w.heap.size:=by
 rcases hq with e | e | e
 ·subst e;exact ⟨Yk _,ak h.hp.blk⟩
 ·have:=oI h.hp.row q e;exact ⟨ω,this.2⟩
 ·have:=oI h.pr q e;exact ⟨ω,this.2⟩
