import Derived.Test.YtaemofgeciklkaaGreatEGC
import Derived.Test.YtaemofgeciklkaaGreatEPHE
set_option linter.unusedVariables false
set_option maxHeartbeats 2000000
open Go.Proofs.Tryz
namespace Go.Proofs.YtaemofgeciklkaaGreat
open Go.RowKit
theorem Tt {α:Type} {Q:Nat->aL α->Prop}:∀ n:Nat,(∀ i,i<n->∃ s,Q i s)->∃ L:List (aL α),L.length=n/\∀ i (h:i<L.length),Q i L[i]
 | 0,_=>⟨[],rfl,fun i h=>by simp at h⟩
 | n+1,h=>by
  obtain ⟨L,h1,h2⟩:=Tt n (fun i hi=>h i ω)
  obtain ⟨s,hs⟩:=h n ω;refine ⟨L++[s],by simp [h1],fun i hi=>?_⟩
  by_cases q:i<L.length
  ·rw [List.getElem_append_left q];exact h2 i q
  ·have e:i=L.length:=(by simp at hi;omega);subst e;rw [List.getElem_append_right (Yk _)];simpa [h1] using hs
theorem adQ {w:World} {ao:Option Addr} {L:List (List ah)} (h:EV w ao L) (hl:∀ i,i<L.length->(L.getD i []).length<=2000000):∃ L':List (aL ah),L'.map aL.l=L/\LV w ao L'/\(∀ s∈L',rK ah.ok w.heap.size s)/\(∀ s∈L',s.l≠[]->iy w s):=by
 rcases Nat.eq_zero_or_pos L.length with z | z
 ·have:L=[]:=qbh.1 z
  subst this;exact ⟨[],rfl,⟨fun h=>by simp at h⟩,fun s hs=>by simp at hs,fun s hs=>by simp at hs⟩
 ·obtain ⟨b,off,e,hb,hc⟩:=h.cells z
  obtain ⟨L',h1,h2⟩:=Tt (Q:=fun i (s:aL ah)=>s.l=L.getD i []/\(∃ bo c,w.cell? (φ b (off+i))=some (.slice bo s.l.length c)/\(0<s.l.length->bo=some (φ s.b s.off)/\c=s.c))/\rK ah.ok w.heap.size s/\(s.l≠[]->iy w s)) L.length (fun i hi=>by
   obtain ⟨bo,c,c1,c2,c3,c4⟩:=hc i hi;rcases Nat.eq_zero_or_pos (L.getD i []).length with y | y
   ·refine ⟨⟨0,0,0,L.getD i []⟩,rfl,⟨bo,c,c1,fun x=>by dsimp only at x;omega⟩,fun ne=>?_,fun ne=>?_⟩
    ·exact absurd (qbh.1 y) ne
    ·exact absurd (qbh.1 y) ne
   ·obtain ⟨eb,eo,rfl,el,ec⟩:=c3.cells y
    refine ⟨⟨eb,eo,c,L.getD i []⟩,rfl,⟨_,c,c1,fun _=>⟨rfl,rfl⟩⟩,fun _=>⟨el,c2,by have:=hl i hi;show (L.getD i []).length<=_;omega,c3.all⟩,fun _ k x hx=>?_⟩
    have kl:k<(L.getD i []).length:=(qaT.1 hx).1;have:=ec k kl;have e2:(L.getD i []).getD k aq=x:=(by rw [qag];show ((L.getD i [])[k]?).getD aq=x;rw [show (L.getD i [])[k]?=some x from hx];rfl);rw [e2] at this;exact this)
  refine ⟨L',?_,⟨fun _=>⟨b,off,e,hb,fun i hi=>(h2 i hi).2.1⟩⟩,fun s hs=>?_,fun s hs=>?_⟩
  ·refine List.ext_getElem (by simp [h1]) fun i yY hi2=>?_
   rw [List.getElem_map];rw [(h2 i (by simpa using yY)).1]
   simp [List.getD,hi2]
  ·obtain ⟨i,hi,rfl⟩:=List.mem_iff_getElem.1 hs
   exact (h2 i hi).2.2.1
  ·obtain ⟨i,hi,rfl⟩:=List.mem_iff_getElem.1 hs
   exact (h2 i hi).2.2.2
theorem adR (ao:Option Addr) (c:Nat) (L:List (List ah)) (hL:L.length<=2000000) (hl:∀ i,i<L.length->(L.getD i []).length<=2000000) (hS:aN L<=2000000) (w:World) (h:EV w ao L) :
  Calls prog 85 #[.slice ao L.length c] w fun e w'=>(∃ bo oc o,e=χ (.slice bo o.length oc)/\EO w' w.heap.size (.slice bo o.length oc) o/\Mg ah.k L o)/\Gw w w':=by
 obtain ⟨L',rfl,l1,l2,l3⟩:=adQ h hl;rw [qaS] at hL ⊢;obtain ⟨W1,E1⟩:=qbr (w.alloc (.cells #[.slice none 0 0] 72));have G1:Gw w W1:=by rw [<-E1];exact (Gw.refl w).alloc _ _
 have B1:W1.heap[w.heap.size]?=some (.cells #[.slice none 0 0] 72 (0,0)):=by rw [<-E1];exact Ω w _
 have s1:W1.heap.size=w.heap.size+1:=by rw [<-E1];simp
 have TF:ag _:=adP L' ao c w.heap.size hL hS W1 (l1.gw G1) (fun s hs ne=>by obtain ⟨q1,q2⟩:=l2 s hs ne;exact ⟨ω,q2⟩) (fun s hs ne=>(l3 s hs ne).keep (G1.below.block _ (l2 s hs ne).1)) (fun s hs ne=>by have:=(l2 s hs ne).1;omega) B1
 have aD:ag (∀ (w2:World) (va:Value) (o:List ah),Mg ah.k (L'.map aL.l) o->nK w2 w.heap.size W1.heap.size va o->Gx (fun q=>q=w.heap.size) W1 w2->∃ bo oc,va=.slice bo o.length oc/\w2.cell? (φ w.heap.size 0)=some (.slice bo o.length oc)/\(∃ ze Tu o',Ending.returned (.slice bo o.length oc)=χ (.slice ze o'.length Tu)/\EO w2 w.heap.size (.slice ze o'.length Tu) o'/\Mg ah.k (L'.map aL.l) o')/\Gw w w2):=fun w2 va o m a g=>by
  have gg:Gw w w2:=Gx.gw G1 g (fun q hq=>qad hq.symm)
  have ob:=tI a.row (show w.heap.size<=W1.heap.size by omega)
  rcases a.row.2 with ⟨e,z⟩ | ⟨bb,cap,cur,e,_⟩
  ·subst e
   refine ⟨none,0,by rw [z],by rw [z];exact aj a.blk rfl,⟨none,0,o,rfl,by rw [z];exact ob,m⟩,gg⟩
  ·subst e
   exact ⟨_,cap,rfl,aj a.blk rfl,⟨_,cap,o,rfl,ob,m⟩,gg⟩
 clear l1 l2 l3 h B1 G1;obtain ⟨n,hn⟩:=qbr L'.length;rw [hn] at TF ⊢;clear hn;go_enter func85,ntmps85;go_wp2_with fail;refine Calls.mono TF.o ?_;rintro e w2 ⟨rfl,⟨va,o,m,a⟩,g⟩;obtain ⟨bo,oc,hva,hc,ff,gg⟩:=aD.o w2 va o m a g;have FF:ag _:=And.intro ff gg;obtain ⟨on,oR⟩:=qbr o.length;rw [oR] at hc FF;clear ff gg m a g hva TF aD oR;go_wp2_with fail;go_ret;exact FF.o
