/- A heap of heads: what all kinds of things share. -/
import Derived.Test.YtepcddmkfdlcjaaGreatLPMem
namespace Go.Proofs.YtepcddmkfdlcjaaGreat
open Go.RowKit
set_option linter.unusedVariables false
theorem Hd.lt.trans {α:Type} {a b c:Hd α} (h:a.lt b) (k:b.lt c):a.lt c:=by simp only [Hd.lt] at *;omega
def BelowI {α:Type} (H:List (Hd α)) (a j f:Nat):Prop:=(f=a∨(a<f∧f<H.length∧(f-1)/2=a∧(gt H f).lt (gt H a)))∧∀ c,2*a+1≤c→c≤2*a+j→c<H.length→¬ (gt H c).lt (gt H f)
theorem BelowI.start {α:Type} (H:List (Hd α)) (a:Nat):BelowI H a 0 a:=⟨.inl rfl,fun c h1 h2 _=>by omega⟩
theorem BelowI.out {α:Type} {H:List (Hd α)} {a j f c:Nat} (h:BelowI H a j f) (hc:c=2*a+1+j) (no:¬ c<H.length):BelowI H a (j+1) f:=⟨h.1,fun d h1 h2 h3=>h.2 d h1 (by omega) h3⟩
theorem BelowI.stay {α:Type} {H:List (Hd α)} {a j f c:Nat} (h:BelowI H a j f) (hc:c=2*a+1+j) (no:¬ (gt H c).lt (gt H f)):BelowI H a (j+1) f:=⟨h.1,fun d h1 h2 h3=>by
 by_cases q:d=c
 ·rw [q];exact no
 ·exact h.2 d h1 (by omega) h3⟩
theorem BelowI.turn {α:Type} {H:List (Hd α)} {a j f c:Nat} (h:BelowI H a j f) (hj:j<2) (hc:c=2*a+1+j) (cl:c<H.length) (lt:(gt H c).lt (gt H f)):BelowI H a (j+1) c:=by
 refine ⟨.inr ⟨by omega,cl,by omega,?_⟩,fun d h1 h2 h3=>?_⟩
 ·rcases h.1 with q | ⟨_,_,_,q⟩
  ·rw [q] at lt;exact lt
  ·exact lt.trans q
 ·by_cases q:d=c
  ·rw [q];simp only [Hd.lt];omega
  ·exact Hd.nlt_lt (h.2 d h1 (by omega) h3) lt
theorem BelowI.done {α:Type} {H:List (Hd α)} {a f:Nat} (h:BelowI H a 2 f):BelowR H a f:=by
 rcases h.1 with rfl | ⟨q1,q2,q3,q4⟩
 ·exact .inl ⟨rfl,fun c c0 cl e=>h.2 c (by omega) (by omega) cl⟩
 ·exact .inr ⟨q1,q2,q3,q4,fun c c0 cl e=>h.2 c (by omega) (by omega) cl⟩
theorem BelowI.lt {α:Type} {H:List (Hd α)} {a j f c:Nat} (h:BelowI H a j f) (hc:c=2*a+1+j) (cl:c<H.length):f<H.length:=by
 rcases h.1 with q | ⟨_,q,_⟩
 ·omega
 ·exact q
structure Hpm {α:Type} (tp th:TypeId) (w:World) (hb base:Nat) (kf hv pv:Value) (H:List (Hd α)):Prop where
 blk:w.heap[hb]?=some (.cells #[kf,hv,pv] tp (0,0))
 row:HR th w base hv H
 ne:∀ q,hv.ownBlock=some q→q≠hb
theorem puth_blk {α:Type} {W:World} {q g o:Nat} {s:Hd α} (h:q≠g):(puth W g o s).heap[q]?=W.heap[q]?:=by
 unfold puth
 rw [Go.Deep.blk_setCell_other _ _ _ _ h,Go.Deep.blk_setCell_other _ _ _ _ h,Go.Deep.blk_setCell_other _ _ _ _ h]
theorem hr_swp {α:Type} {t:TypeId} {w:World} {base g cap n i j:Nat} {H:List (Hd α)} (h:HR t w base (.slice (some ⟨g,0,none⟩) n cap) H) (hn:H.length=n) (hi:i<n) (hj:j<n):HR t (puth (puth w g (i*3) (gt H j)) g (j*3) (gt H i)) base (.slice (some ⟨g,0,none⟩) n cap) (swp H i j) :=
 hr_put (hr_put h hn hi (gt H j)) (by simpa using hn) hj (gt H i)
theorem swp_facts {α:Type} {t:TypeId} {w:World} {base g cap n i j:Nat} {H:List (Hd α)} (h:HR t w base (.slice (some ⟨g,0,none⟩) n cap) H) (hn:H.length=n) (hi:i<n) (hj:j<n) (ne:j≠i) {x y:Hd α} (hx:gt H i=x) (hy:gt H j=y) :
  ∃ W1 W2,puth w g (i*3) y=W1∧puth W1 g (j*3) x=W2∧HR t W2 base (.slice (some ⟨g,0,none⟩) n cap) (swp H i j)∧(∀ q,q≠g→W1.heap[q]?=w.heap[q]?)∧(∀ o,W1.frozen? ⟨g,o,none⟩=false)∧(W1.cell? ⟨g,j*3,none⟩=some (.int .u64 y.k)∧W1.cell? ⟨g,j*3+1,none⟩=some (.int .i64 (y.i:Int))∧W1.cell? ⟨g,j*3+2,none⟩=some y.s.v)∧Gx (fun q=>q=g) w W2:=by
 have h1:=hr_put h hn hi (gt H j)
 have c:=hr_cells h1 (by simpa using hn)
 have s:=hr_swp h hn hi hj
 rw [hy] at h1 c
 rw [hx,hy] at s
 refine ⟨_,_,rfl,rfl,s,fun q hq=>puth_blk hq,c.1,?_,puth_gx (puth_gx (Gx.refl (fun q=>q=g) _) (.inl rfl) _ _) (.inl rfl) _ _⟩
 have:=c.2.2.2 j hj
 rw [gt_set _ _ _ (by omega),if_neg ne,hy] at this
 exact this
theorem blk_set {w:World} {b o:Nat} {vs:Array Value} {t:TypeId} (h:w.heap[b]?=some (.cells vs t (0,0))) (u:Value):(w.setCell ⟨b,o,none⟩ u).heap[b]?=some (.cells (vs.setIfInBounds o u) t (0,0)):=by simp [World.setCell,Array.getElem?_modify,h]
theorem cut_facts {α:Type} {t tp:TypeId} {w:World} {base g cap n m hb:Nat} {kf pv:Value} {H:List (Hd α)} (h:HR t w base (.slice (some ⟨g,0,none⟩) n cap) H) (hn:H.length=n) (h1:1≤n) (hm:m=n-1) (gne:g≠hb) (hb0:w.heap[hb]?=some (.cells #[kf, .slice (some ⟨g,0,none⟩) n cap,pv] tp (0,0))) {y:Hd α} (hy:gt H m=y) :
  ∃ W1 W2,puth w g 0 y=W1∧W1.setCell ⟨hb,1,none⟩ (.slice (some ⟨g,0,none⟩) m cap)=W2∧W1.cell? ⟨hb,1,none⟩=some (.slice (some ⟨g,0,none⟩) n cap)∧W1.frozen? ⟨hb,1,none⟩=false∧Hpm tp t W2 hb base kf (.slice (some ⟨g,0,none⟩) m cap) pv (cutL H)∧Gx (fun q=>q=hb∨q=g) w W2:=by
 have k1:=hr_put (k:=0) h hn (by omega) (gt H m)
 rw [Nat.zero_mul,hy] at k1
 have b1:(puth w g 0 y).heap[hb]?=some (.cells #[kf, .slice (some ⟨g,0,none⟩) n cap,pv] tp (0,0)):=(puth_blk (fun e=>gne e.symm)).trans hb0
 have k2:=hr_take k1 (by simpa using hn) m (by omega)
 have e:cutL H=(H.set 0 y).take m:=by unfold cutL;rw [hn,←hm,hy]
 refine ⟨_,_,rfl,rfl,blkc b1 rfl,blkf b1,⟨?_,?_,fun q hq=>?_⟩,?_⟩
 ·exact blk_set b1 _
 ·rw [e]
  exact hr_keep k2 fun q hq=>Go.Deep.blk_setCell_other _ _ _ _ (by cases hq;exact gne)
 ·cases hq;exact gne
 ·exact (puth_gx (Gx.refl _ _) (.inl (Or.inr rfl)) _ _).set (.inl (Or.inl rfl)) _ _
theorem hr_len {α:Type} {t:TypeId} {w:World} {base:Nat} {v:Value} {H:List (Hd α)} (h:HR t w base v H):v=.slice none 0 0∧H.length=0∨∃ g cap,v=.slice (some ⟨g,0,none⟩) H.length cap∧H.length≤cap:=by
 rcases h.2 with q | ⟨g,cap,cur,e,_,_,hc,_⟩
 ·exact .inl q
 ·exact .inr ⟨g,cap,e,hc⟩
structure Hst {α:Type} (tp th:TypeId) (w:World) (hb:Nat) (kf hv pv:Value) (H P:List (Hd α)):Prop where
 hp:Hpm tp th w hb (hb+1) kf hv pv H
 pr:HR th w (hb+1) pv P
 ap:∀ q,hv.ownBlock=some q→pv.ownBlock=some q→False
theorem Hst.pne {α:Type} {tp th:TypeId} {w:World} {hb:Nat} {kf hv pv:Value} {H P:List (Hd α)} (h:Hst tp th w hb kf hv pv H P):∀ q,pv.ownBlock=some q→q≠hb:=fun q hq=>by have:=(hr_lt h.pr q hq).1;omega
def hpS (hb:Nat) (hv pv:Value) (q:Nat):Prop:=q=hb∨hv.ownBlock=some q∨pv.ownBlock=some q
theorem Hst.keep {α:Type} {tp th:TypeId} {w w':World} {hb:Nat} {kf hv pv:Value} {H P:List (Hd α)} (h:Hst tp th w hb kf hv pv H P) (k:∀ q,hpS hb hv pv q→w'.heap[q]?=w.heap[q]?):Hst tp th w' hb kf hv pv H P :=
 ⟨⟨(k hb (.inl rfl)).trans h.hp.blk,hr_keep h.hp.row fun q hq=>k q (.inr (.inl hq)),h.hp.ne⟩,hr_keep h.pr fun q hq=>k q (.inr (.inr hq)),h.ap⟩
theorem Hst.lt {α:Type} {tp th:TypeId} {w:World} {hb:Nat} {kf hv pv:Value} {H P:List (Hd α)} (h:Hst tp th w hb kf hv pv H P) {q:Nat} (hq:hpS hb hv pv q):hb≤q∧q<w.heap.size:=by
 rcases hq with e | e | e
 ·subst e;exact ⟨Nat.le_refl _,blkl h.hp.blk⟩
 ·have:=hr_lt h.hp.row q e;exact ⟨by omega,this.2⟩
 ·have:=hr_lt h.pr q e;exact ⟨by omega,this.2⟩
end Go.Proofs.YtepcddmkfdlcjaaGreat
