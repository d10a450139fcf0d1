/- Heads of lists in memory; all but some blocks as they were. -/
import Derived.BigRegion
import Derived.Lib.SmallJoins
import Derived.Test.YtemijdhemdhclaaGreatNPBs
import Derived.Test.YtemijdhemdhclaaGreatNGPlain
set_option linter.unusedVariables false
namespace Go.Proofs.YtemijdhemdhclaaGreat
open Go.RowKit
structure Gx (S:Nat->Prop) (w w':World):Prop where
 os:w'.os=w.os
 tape:w'.tape=w.tape
 output:w'.output=w.output
 size:w.heap.size<=w'.heap.size
 block:∀ q,q<w.heap.size->¬ S q->w'.heap[q]?=w.heap[q]?
theorem Gx.refl (S:Nat->Prop) (w:World):Gx S w w:=⟨rfl,rfl,rfl,Nat.le_refl _,fun _ _ _=>rfl⟩
theorem Gw.gx {w w':World} (h:Gw w w') (S:Nat->Prop):Gx S w w':=⟨h.below.os,h.below.tape,h.below.output,h.below.size,fun q hq _=>h.below.block q hq⟩
theorem Gx.trans {S S':Nat->Prop} {a b c:World} (h:Gx S a b) (k:Gx S' b c) (e:∀ q,S' q->S q\/a.heap.size<=q):Gx S a c :=
 ⟨k.os.trans h.os,k.tape.trans h.tape,k.output.trans h.output,Nat.le_trans h.size k.size,fun q hq hs=>(k.block q (Nat.lt_of_lt_of_le hq h.size) (fun x=>by
  rcases e q x with y | y
  ·exact hs y
  ·omega)).trans (h.block q hq hs)⟩
theorem Gx.mono {S S':Nat->Prop} {a b:World} (h:Gx S a b) (e:∀ q,S q->S' q\/a.heap.size<=q):Gx S' a b :=
 ⟨h.os,h.tape,h.output,h.size,fun q hq hs=>h.block q hq (fun x=>by
  rcases e q x with y | y
  ·exact hs y
  ·omega)⟩
theorem Gx.tw {S:Nat->Prop} {a b c:World} (h:Gx S a b) (k:Gw b c):Gx S a c:=h.trans (k.gx fun _=>False) (fun _ x=>x.elim)
theorem Gx.gw {S:Nat->Prop} {W w w':World} (h:Gw W w) (g:Gx S w w') (hS:∀ q,S q->W.heap.size<=q):Gw W w' :=
 ⟨⟨g.os.trans h.below.os,g.tape.trans h.below.tape,g.output.trans h.below.output,Nat.le_trans h.size g.size,fun q hq=>(g.block q (Nat.lt_of_lt_of_le hq h.size) (fun x=>by have:=hS q x;omega)).trans (h.below.block q hq)⟩⟩
theorem Gx.set {S:Nat->Prop} {w w':World} (h:Gx S w w') {q:Nat} (hq:S q\/w.heap.size<=q) (o:Nat) (v:Value):Gx S w (w'.setCell ⟨q,o,none⟩ v) :=
 ⟨h.os,h.tape,h.output,by simpa [World.setCell] using h.size,fun k hk hs=>(Go.Deep.blk_setCell_other _ _ _ _ (fun e=>by
  have e':k=q:=e;rcases hq with x | x
  ·exact hs (by rw [e'];exact x)
  ·omega)).trans (h.block k hk hs)⟩
theorem Gx.grown {S:Nat->Prop} {w w' w'':World} {row:Option Nat} (h:Gx S w w') (g:w'.grownBy w'' row) (hr:∀ k,row=some k->S k\/w.heap.size<=k):Gx S w w'' :=
 ⟨g.os.trans h.os,g.tape.trans h.tape,g.output.trans h.output,Nat.le_trans h.size g.size,fun k hk hs=>(g.block k (Nat.lt_of_lt_of_le hk h.size) (fun e=>by
  rcases hr k e.symm with x | x
  ·exact hs x
  ·omega)).trans (h.block k hk hs)⟩
theorem Gx.drew {S:Nat->Prop} {w w':World} (h:Gx S w w'):Gx S w w'.drew:=⟨h.os,h.tape,h.output,h.size,h.block⟩
theorem Gx.alloc {S:Nat->Prop} {w w':World} (h:Gx S w w') (c:Array Value) (t:TypeId):Gx S w (w'.alloc (.cells c t)):=h.tw ((Gw.refl _).alloc _ _)
theorem blkc {W:World} {k o:Nat} {vs:Array Value} {t:TypeId} {v:Value} (h:W.heap[k]?=some (.cells vs t (0,0))) (hv:vs[o]?=some v):W.cell? ⟨k,o,none⟩=some v:=by simp [World.cell?,h,hv]
theorem blkf {W:World} {k o:Nat} {vs:Array Value} {t:TypeId} (h:W.heap[k]?=some (.cells vs t (0,0))):W.frozen? ⟨k,o,none⟩=false:=by simp [World.frozen?,h]
theorem blkl {W:World} {k:Nat} {o:Obj} (h:W.heap[k]?=some o):k<W.heap.size:=(Array.getElem?_eq_some_iff.1 h).1
section
variable {α:Type}
def Lst.v (s:Lst α):Value:=.slice (some ⟨s.b,s.off,none⟩) s.l.length s.c
def hd3 (h:Hd α):List Value:=[.int .u64 h.k,.int .i64 (h.i:Int),h.s.v]
def Hd.v (h:Hd α):Value:=.agg #[.int .u64 h.k,.int .i64 (h.i:Int),.slice (some ⟨h.s.b,h.s.off,none⟩) h.s.l.length h.s.c]
theorem hd3_one (h:Hd α):∀ u∈hd3 h,u.oneCell'=true:=by
 intro u hu;simp only [hd3,List.mem_cons,List.not_mem_nil,or_false] at hu;rcases hu with rfl | rfl | rfl<;>rfl
def HR (t:TypeId) (w:World) (base:Nat) (v:Value) (H:List (Hd α)):Prop:=w.ownsRow base t 3 v H.length (H.flatMap hd3)
theorem hr_keep {t:TypeId} {w w':World} {base:Nat} {v:Value} {H:List (Hd α)} (h:HR t w base v H) (k:∀ q,v.ownBlock=some q->w'.heap[q]?=w.heap[q]?):HR t w' base v H:=by
 refine ⟨h.1,?_⟩;rcases h.2 with q | ⟨b,cap,cur,rfl,hb,hh,r⟩
 ·exact .inl q
 ·exact .inr ⟨b,cap,cur,rfl,hb,(k b rfl).trans hh,r⟩
theorem hr_lt {t:TypeId} {w:World} {base:Nat} {v:Value} {H:List (Hd α)} (h:HR t w base v H):∀ q,v.ownBlock=some q->base<=q/\q<w.heap.size:=World.ownsRow.lt h
theorem hr_gw {t:TypeId} {w w':World} {base:Nat} {v:Value} {H:List (Hd α)} (h:HR t w base v H) (g:Gw w w'):HR t w' base v H:=hr_keep h fun q hq=>g.below.block q (hr_lt h q hq).2
theorem hr_gx {t:TypeId} {w w':World} {base:Nat} {v:Value} {H:List (Hd α)} {S:Nat->Prop} (h:HR t w base v H) (g:Gx S w w') (no:∀ q,v.ownBlock=some q->¬ S q):HR t w' base v H:=hr_keep h fun q hq=>g.block q (hr_lt h q hq).2 (no q hq)
theorem flat_hd:∀ (l:List (Hd α)) (i:Nat),i<l.length->∀ j,j<3->(l.flatMap hd3)[i*3+j]?=(hd3 (gt l i))[j]?:=by
 intro l;induction l with
 | nil=>intro i hi;simp at hi
 | cons s l ih =>
  intro i hi j hj;rw [List.flatMap_cons];cases i with
  | zero =>
   rw [Nat.zero_mul,Nat.zero_add,List.getElem?_append_left (by show j<3;exact hj)]
   rfl
  | succ i =>
   have e:(i+1)*3+j=i*3+j+3:=by omega
   rw [e,List.getElem?_append_right (by show 3<=_;omega),show i*3+j+3-(hd3 s).length=i*3+j by show i*3+j+3-3=_;omega]
   exact ih i (by simpa using hi) j hj
theorem hr_form {t:TypeId} {w:World} {base:Nat} {v:Value} {H:List (Hd α)} (h:HR t w base v H) (h0:0<H.length):∃ b cap,v=.slice (some ⟨b,0,none⟩) H.length cap/\H.length<=cap/\base<=b/\b<w.heap.size:=by
 rcases h.2 with ⟨_,z⟩ | ⟨b,cap,cur,e,hb,hh,hc,_⟩
 ·omega
 ·exact ⟨b,cap,e,hc,hb,(Array.getElem?_eq_some_iff.1 hh).1⟩
theorem hr_cells {t:TypeId} {w:World} {base b n cap:Nat} {H:List (Hd α)} (h:HR t w base (.slice (some ⟨b,0,none⟩) n cap) H) (hn:H.length=n):(∀ i,w.frozen? ⟨b,i,none⟩=false)/\n<=cap/\b<w.heap.size/\∀ i,i<n->w.cell? ⟨b,i*3,none⟩=some (.int .u64 (gt H i).k)/\w.cell? ⟨b,i*3+1,none⟩=some (.int .i64 ((gt H i).i:Int))/\w.cell? ⟨b,i*3+2,none⟩=some (gt H i).s.v:=by
 subst hn;rcases h.2 with ⟨z,_⟩ | ⟨g,cap',cur,e,hb,hh,r⟩
 ·cases z
 ·injection e with e1 e2 e3
  injection e1 with e1;injection e1 with e1;subst e1 e3;have c':∀ i,i<H.length->∀ j,j<3->w.cell? ⟨b,i*3+j,none⟩=(hd3 (gt H i))[j]?:=fun i hi j hj=>by
   have:=World.ownsRow.cellAt h (i*3+j) (by omega)
   rw [this];exact flat_hd H i hi j hj
  exact ⟨fun i=>by simp [World.frozen?,hh],r.1,(Array.getElem?_eq_some_iff.1 hh).1,fun i hi=>⟨c' i hi 0 (by decide),c' i hi 1 (by decide),c' i hi 2 (by decide)⟩⟩
theorem flat_hset:∀ (l:List (Hd α)) (k:Nat) (s:Hd α),k<l.length->(((l.flatMap hd3).set (k*3) (.int .u64 s.k)).set (k*3+1) (.int .i64 (s.i:Int))).set (k*3+2) s.s.v=(l.set k s).flatMap hd3:=by
 intro l;induction l with
 | nil=>intro k s hk;simp at hk
 | cons t l ih =>
  intro k s hk;cases k with
  | zero=>simp [hd3]
  | succ k =>
   have:=ih k s (by simpa using hk)
   rw [List.set_cons_succ,List.flatMap_cons,List.flatMap_cons,<-this];have e:∀ r,(k+1)*3+r=k*3+r+3:=fun r=>by omega
   have e0:(k+1)*3=k*3+3:=by omega
   rw [e 1,e 2,e0];simp [hd3]
def puth (w:World) (g o:Nat) (s:Hd α):World:=((w.setCell ⟨g,o,none⟩ (.int .u64 s.k)).setCell ⟨g,o+1,none⟩ (.int .i64 (s.i:Int))).setCell ⟨g,o+2,none⟩ s.s.v
theorem hr_put {t:TypeId} {w:World} {base g cap k n:Nat} {H:List (Hd α)} (h:HR t w base (.slice (some ⟨g,0,none⟩) n cap) H) (hn:H.length=n) (hk:k<n) (s:Hd α):HR t (puth w g (k*3) s) base (.slice (some ⟨g,0,none⟩) n cap) (H.set k s):=by
 subst hn;have h':w.ownsRow base t 3 (.slice (some ⟨g,0,none⟩) H.length cap) H.length (H.flatMap hd3):=h;have r:=(((h'.stored (k*3) (.int .u64 s.k)).1.stored (k*3+1) (.int .i64 (s.i:Int))).1.stored (k*3+2) s.s.v).1;rw [flat_hset H k s hk] at r;show World.ownsRow _ _ _ _ _ _ _;rw [List.length_set];exact r
theorem puth_gx {w w':World} {S:Nat->Prop} {g:Nat} (h:Gx S w w') (hg:S g\/w.heap.size<=g) (o:Nat) (s:Hd α):Gx S w (puth w' g o s):=((h.set hg _ _).set hg _ _).set hg _ _
theorem hr_more {t:TypeId} {w:World} {base:Nat} {v:Value} {H:List (Hd α)} {x:Hd α} (h:w.ownsRow base t 3 v (H.length+1) (H.flatMap hd3++hd3 x)):HR t w base v (H++[x]):=by
 show World.ownsRow _ _ _ _ _ _ _;rw [List.length_append,List.flatMap_append];simpa using h
theorem flat_htake:∀ (l:List (Hd α)) (k:Nat),(l.take k).flatMap hd3=(l.flatMap hd3).take (k*3)
 | [],k=>by simp
 | s::l,0=>by simp
 | s::l,k+1=>by
  rw [List.take_succ_cons,List.flatMap_cons,List.flatMap_cons,flat_htake l k,show (k+1)*3=(hd3 s).length+k*3 by show _=3+_;omega,List.take_length_add_append]
theorem hr_take {t:TypeId} {w:World} {base g cap n:Nat} {H:List (Hd α)} (h:HR t w base (.slice (some ⟨g,0,none⟩) n cap) H) (hn:H.length=n) (k:Nat) (hk:k<=n):HR t w base (.slice (some ⟨g,0,none⟩) k cap) (H.take k):=by
 subst hn;have e:(H.take k).length=k:=by simp;omega
 show World.ownsRow _ _ _ _ _ _ _;rw [e];rcases h.2 with ⟨z,_⟩ | ⟨b,cap',cur,e1,hb,hh,hc,hm,hs,ht⟩
 ·cases z
 ·injection e1 with q1 q2 q3
  injection q1 with q1;injection q1 with q1;subst q1 q3;refine ⟨?_,.inr ⟨g,cap,cur,rfl,hb,hh,by omega,hm,hs,?_⟩⟩
  ·rw [flat_htake,<-ht];simp;omega
  ·rw [flat_htake,<-ht,List.take_take,Nat.min_eq_left (by omega)]
theorem hr_nil (t:TypeId) (w:World) (base:Nat):HR t w base (.slice none 0 0) ([]:List (Hd α)):=World.ownsRow_nil w base t 3
theorem new_hd (t:TypeId) (w:World) (h:Hd α):∀ j u,(hd3 h)[j]?=some u->(w.alloc (.cells #[.int .u64 h.k,.int .i64 (h.i:Int),.slice (some ⟨h.s.b,h.s.off,none⟩) h.s.l.length h.s.c] t)).cell? ((⟨w.heap.size,0,none⟩:Addr).add j)=some u:=by
 intro j u hu
 match j,hu with
 | 0,hu=>simp [hd3] at hu;subst hu;simp [Addr.add,go_sem]
 | 1,hu=>simp [hd3] at hu;subst hu;simp [Addr.add,go_sem]
 | 2,hu=>simp [hd3,Lst.v] at hu;subst hu;simp [Addr.add,go_sem]
 | j+3,hu=>simp [hd3] at hu
end
theorem Hd.lt.trans {α:Type} {a b c:Hd α} (h:a.lt b) (k:b.lt c):a.lt c:=by simp only [Hd.lt] at *;omega
def BelowI {α:Type} (H:List (Hd α)) (a j f:Nat):Prop:=(f=a\/(a<f/\f<H.length/\(f-1)/2=a/\(gt H f).lt (gt H a)))/\∀ c,2*a+1<=c->c<=2*a+j->c<H.length->¬ (gt H c).lt (gt H f)
theorem BelowI.start {α:Type} (H:List (Hd α)) (a:Nat):BelowI H a 0 a:=⟨.inl rfl,fun c h1 h2 _=>by omega⟩
theorem BelowI.out {α:Type} {H:List (Hd α)} {a j f c:Nat} (h:BelowI H a j f) (hc:c=2*a+1+j) (no:¬ c<H.length):BelowI H a (j+1) f:=⟨h.1,fun d h1 h2 h3=>h.2 d h1 (by omega) h3⟩
theorem BelowI.stay {α:Type} {H:List (Hd α)} {a j f c:Nat} (h:BelowI H a j f) (hc:c=2*a+1+j) (no:¬ (gt H c).lt (gt H f)):BelowI H a (j+1) f:=⟨h.1,fun d h1 h2 h3=>by
 by_cases q:d=c
 ·rw [q];exact no
 ·exact h.2 d h1 (by omega) h3⟩
theorem BelowI.turn {α:Type} {H:List (Hd α)} {a j f c:Nat} (h:BelowI H a j f) (hj:j<2) (hc:c=2*a+1+j) (cl:c<H.length) (lt:(gt H c).lt (gt H f)):BelowI H a (j+1) c:=by
 refine ⟨.inr ⟨by omega,cl,by omega,?_⟩,fun d h1 h2 h3=>?_⟩
 ·rcases h.1 with q | ⟨_,_,_,q⟩
  ·rw [q] at lt;exact lt
  ·exact lt.trans q
 ·by_cases q:d=c
  ·rw [q];simp only [Hd.lt];omega
  ·exact Hd.nlt_lt (h.2 d h1 (by omega) h3) lt
theorem BelowI.done {α:Type} {H:List (Hd α)} {a f:Nat} (h:BelowI H a 2 f):BelowR H a f:=by
 rcases h.1 with rfl | ⟨q1,q2,q3,q4⟩
 ·exact .inl ⟨rfl,fun c c0 cl e=>h.2 c (by omega) (by omega) cl⟩
 ·exact .inr ⟨q1,q2,q3,q4,fun c c0 cl e=>h.2 c (by omega) (by omega) cl⟩
theorem BelowI.lt {α:Type} {H:List (Hd α)} {a j f c:Nat} (h:BelowI H a j f) (hc:c=2*a+1+j) (cl:c<H.length):f<H.length:=by
 rcases h.1 with q | ⟨_,q,_⟩
 ·omega
 ·exact q
structure Hpm {α:Type} (tp th:TypeId) (w:World) (hb base:Nat) (kf hv pv:Value) (H:List (Hd α)):Prop where
 blk:w.heap[hb]?=some (.cells #[kf,hv,pv] tp (0,0))
 row:HR th w base hv H
 ne:∀ q,hv.ownBlock=some q->q≠hb
theorem puth_blk {α:Type} {W:World} {q g o:Nat} {s:Hd α} (h:q≠g):(puth W g o s).heap[q]?=W.heap[q]?:=by
 unfold puth;rw [Go.Deep.blk_setCell_other _ _ _ _ h,Go.Deep.blk_setCell_other _ _ _ _ h,Go.Deep.blk_setCell_other _ _ _ _ h]
theorem hr_swp {α:Type} {t:TypeId} {w:World} {base g cap n i j:Nat} {H:List (Hd α)} (h:HR t w base (.slice (some ⟨g,0,none⟩) n cap) H) (hn:H.length=n) (hi:i<n) (hj:j<n):HR t (puth (puth w g (i*3) (gt H j)) g (j*3) (gt H i)) base (.slice (some ⟨g,0,none⟩) n cap) (swp H i j) :=
 hr_put (hr_put h hn hi (gt H j)) (by simpa using hn) hj (gt H i)
theorem swp_facts {α:Type} {t:TypeId} {w:World} {base g cap n i j:Nat} {H:List (Hd α)} (h:HR t w base (.slice (some ⟨g,0,none⟩) n cap) H) (hn:H.length=n) (hi:i<n) (hj:j<n) (ne:j≠i) {x y:Hd α} (hx:gt H i=x) (hy:gt H j=y) :
  ∃ W1 W2,puth w g (i*3) y=W1/\puth W1 g (j*3) x=W2/\HR t W2 base (.slice (some ⟨g,0,none⟩) n cap) (swp H i j)/\(∀ q,q≠g->W1.heap[q]?=w.heap[q]?)/\(∀ o,W1.frozen? ⟨g,o,none⟩=false)/\(W1.cell? ⟨g,j*3,none⟩=some (.int .u64 y.k)/\W1.cell? ⟨g,j*3+1,none⟩=some (.int .i64 (y.i:Int))/\W1.cell? ⟨g,j*3+2,none⟩=some y.s.v)/\Gx (fun q=>q=g) w W2:=by
 have h1:=hr_put h hn hi (gt H j);have c:=hr_cells h1 (by simpa using hn)
 have s:=hr_swp h hn hi hj;rw [hy] at h1 c;rw [hx,hy] at s;refine ⟨_,_,rfl,rfl,s,fun q hq=>puth_blk hq,c.1,?_,puth_gx (puth_gx (Gx.refl (fun q=>q=g) _) (.inl rfl) _ _) (.inl rfl) _ _⟩
 have:=c.2.2.2 j hj
 rw [gt_set _ _ _ (by omega),if_neg ne,hy] at this
 exact this
theorem blk_set {w:World} {b o:Nat} {vs:Array Value} {t:TypeId} (h:w.heap[b]?=some (.cells vs t (0,0))) (u:Value):(w.setCell ⟨b,o,none⟩ u).heap[b]?=some (.cells (vs.setIfInBounds o u) t (0,0)):=by simp [World.setCell,Array.getElem?_modify,h]
theorem cut_facts {α:Type} {t tp:TypeId} {w:World} {base g cap n m hb:Nat} {kf pv:Value} {H:List (Hd α)} (h:HR t w base (.slice (some ⟨g,0,none⟩) n cap) H) (hn:H.length=n) (h1:1<=n) (hm:m=n-1) (gne:g≠hb) (hb0:w.heap[hb]?=some (.cells #[kf,.slice (some ⟨g,0,none⟩) n cap,pv] tp (0,0))) {y:Hd α} (hy:gt H m=y) :
  ∃ W1 W2,puth w g 0 y=W1/\W1.setCell ⟨hb,1,none⟩ (.slice (some ⟨g,0,none⟩) m cap)=W2/\W1.cell? ⟨hb,1,none⟩=some (.slice (some ⟨g,0,none⟩) n cap)/\W1.frozen? ⟨hb,1,none⟩=false/\Hpm tp t W2 hb base kf (.slice (some ⟨g,0,none⟩) m cap) pv (cutL H)/\Gx (fun q=>q=hb\/q=g) w W2:=by
 have k1:=hr_put (k:=0) h hn (by omega) (gt H m)
 rw [Nat.zero_mul,hy] at k1;have b1:(puth w g 0 y).heap[hb]?=some (.cells #[kf,.slice (some ⟨g,0,none⟩) n cap,pv] tp (0,0)):=(puth_blk (fun e=>gne e.symm)).trans hb0
 have k2:=hr_take k1 (by simpa using hn) m (by omega)
 have e:cutL H=(H.set 0 y).take m:=by unfold cutL;rw [hn,<-hm,hy]
 refine ⟨_,_,rfl,rfl,blkc b1 rfl,blkf b1,⟨?_,?_,fun q hq=>?_⟩,?_⟩
 ·exact blk_set b1 _
 ·rw [e]
  exact hr_keep k2 fun q hq=>Go.Deep.blk_setCell_other _ _ _ _ (by cases hq;exact gne)
 ·cases hq;exact gne
 ·exact (puth_gx (Gx.refl _ _) (.inl (Or.inr rfl)) _ _).set (.inl (Or.inl rfl)) _ _
theorem hr_len {α:Type} {t:TypeId} {w:World} {base:Nat} {v:Value} {H:List (Hd α)} (h:HR t w base v H):v=.slice none 0 0/\H.length=0\/∃ g cap,v=.slice (some ⟨g,0,none⟩) H.length cap/\H.length<=cap:=by
 rcases h.2 with q | ⟨g,cap,cur,e,_,_,hc,_⟩
 ·exact .inl q
 ·exact .inr ⟨g,cap,e,hc⟩
structure Hst {α:Type} (tp th:TypeId) (w:World) (hb:Nat) (kf hv pv:Value) (H P:List (Hd α)):Prop where
 hp:Hpm tp th w hb (hb+1) kf hv pv H
 pr:HR th w (hb+1) pv P
 ap:∀ q,hv.ownBlock=some q->pv.ownBlock=some q->False
theorem Hst.pne {α:Type} {tp th:TypeId} {w:World} {hb:Nat} {kf hv pv:Value} {H P:List (Hd α)} (h:Hst tp th w hb kf hv pv H P):∀ q,pv.ownBlock=some q->q≠hb:=fun q hq=>by have:=(hr_lt h.pr q hq).1;omega
def hpS (hb:Nat) (hv pv:Value) (q:Nat):Prop:=q=hb\/hv.ownBlock=some q\/pv.ownBlock=some q
theorem Hst.keep {α:Type} {tp th:TypeId} {w w':World} {hb:Nat} {kf hv pv:Value} {H P:List (Hd α)} (h:Hst tp th w hb kf hv pv H P) (k:∀ q,hpS hb hv pv q->w'.heap[q]?=w.heap[q]?):Hst tp th w' hb kf hv pv H P :=
 ⟨⟨(k hb (.inl rfl)).trans h.hp.blk,hr_keep h.hp.row fun q hq=>k q (.inr (.inl hq)),h.hp.ne⟩,hr_keep h.pr fun q hq=>k q (.inr (.inr hq)),h.ap⟩
theorem Hst.lt {α:Type} {tp th:TypeId} {w:World} {hb:Nat} {kf hv pv:Value} {H P:List (Hd α)} (h:Hst tp th w hb kf hv pv H P) {q:Nat} (hq:hpS hb hv pv q):hb<=q/\q<w.heap.size:=by
 rcases hq with e | e | e
 ·subst e;exact ⟨Nat.le_refl _,blkl h.hp.blk⟩
 ·have:=hr_lt h.hp.row q e;exact ⟨by omega,this.2⟩
 ·have:=hr_lt h.pr q e;exact ⟨by omega,this.2⟩
end Go.Proofs.YtemijdhemdhclaaGreat
