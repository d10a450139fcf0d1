/- Lists of lists of numbers in memory, rows of ints of a call's own, places. -/
import Derived.Test.YtcboobmfnmgldaaGreatBPE3
import Derived.Test.YtcboobmfnmgldaaGreatBGPlain
set_option linter.unusedVariables false
open Go.Proofs.Tryz
namespace Go.Proofs.YtcboobmfnmgldaaGreat
open Go.RowKit
theorem aa1:(prog.info? 3).map (fun i=>(i.zero,i.size,i.bytes))=some (some (AI 0),1,8):=by kernel_rfl
theorem aa2 (m:Nat) (z:Int) (hz:z=(m:Int)) (hm:m<=281474976710) (w:World) :
  (Instr.makeSlice 50 (AI z) (AI z)).run prog w=.ok (.slice (some ⟨w.heap.size,0,none⟩) m m) (w.alloc (.cells (madeCells #[AI 0] m) 3)):=by
 obtain ⟨i,hi,qZ,hs,hb⟩:=info_parts aa1;subst hz;exact run_make_row (P:=prog) 50 3 i (AI 0) underlying50 hi qZ hs rfl .i64 .i64 m (by rw [hb];omega) (by omega) w
structure ah where
 k:Int
 v:Int
 g:Bool
def ax:ah:=⟨0,0,false⟩
def ah.ok (e:ah):Prop:=(0<=e.k/\e.k<18446744073709551616)/\(0<=e.v/\e.v<18446744073709551616)
def aO (e:ah):List Value:=[By e.k,By e.v,.bool e.g]
def EL (w:World) (ao:Option Addr) (l:List ah):Prop:=ES w ao l.length (fun i=>(l.getD i ax).k) (fun i=>(l.getD i ax).v) (fun i=>(l.getD i ax).g)
variable {w w':World} {ao:Option Addr} {l:List ah}
theorem EL.gw (h:EL w ao l) (g:Gw w w'):EL w' ao l:=ES.gw h g
theorem EL.ok (h:EL w ao l) {i:Nat} (hi:i<l.length):(l.getD i ax).ok:=h.bd i hi
theorem EL.all (h:EL w ao l):∀ e∈l,e.ok:=by
 intro e he;obtain ⟨i,hi,rfl⟩:=List.mem_iff_getElem.1 he;have:=h.ok hi;rwa [show l.getD i ax=l[i] by simp [List.getD,hi]] at this
theorem mJ (e:ah):∀ u∈aO e,u.oneCell'=true:=by
 intro u hu;simp only [aO,List.mem_cons,List.not_mem_nil,or_false] at hu;rcases hu with rfl | rfl | rfl<;>rfl
def EO (w:World) (base:Nat) (v:Value) (l:List ah):Prop:=w.ownsRow base 75 3 v l.length (l.flatMap aO)
variable {base:Nat} {v:Value}
theorem mL (h:EO w base v l) (k:∀ q,v.ownBlock=some q->w'.heap[q]?=w.heap[q]?):EO w' base v l:=by
 refine ⟨h.1,?_⟩;rcases h.2 with q | ⟨b,cap,cur,rfl,hb,hh,r⟩
 ·exact .inl q
 ·exact .inr ⟨b,cap,cur,rfl,hb,(k b rfl).trans hh,r⟩
theorem nT (h:EO w base v l) (g:Gw w w'):EO w' base v l:=mL h fun q hq=>g.below.block q (World.ownsRow.lt h q hq).2
theorem Om {pB:Nat} (h:EO w base v l) (hb:pB<=base):EO w pB v l:=by
 refine ⟨h.1,?_⟩;rcases h.2 with q | ⟨b,cap,cur,rfl,hg,r⟩
 ·exact .inl q
 ·exact .inr ⟨b,cap,cur,rfl,Nat.le_trans hb hg,r⟩
theorem EJ:∀ (l:List ah) (i:Nat),i<l.length->∀ j,j<3->(l.flatMap aO)[i*3+j]?=(aO (l.getD i ax))[j]?:=by
 intro l;induction l with
 | nil=>intro i hi;simp at hi
 | cons s l ih =>
  intro i hi j hj;rw [List.flatMap_cons];cases i with
  | zero =>
   rw [Nat.zero_mul,Nat.zero_add,List.getElem?_append_left (by show j<3;exact hj)]
   rfl
  | succ i =>
   have e:(i+1)*3+j=i*3+j+3:=by omega
   rw [e,List.getElem?_append_right (by show 3<=_;omega),show i*3+j+3-(aO s).length=i*3+j by show i*3+j+3-3=_;omega]
   exact ih i (by simpa using hi) j hj
theorem vS {c:Nat} (h:EO w base (.slice ao l.length c) l) (ok:∀ e∈l,e.ok):EL w ao l:=by
 refine ⟨fun h0=>?_,fun i hi=>?_⟩
 ·rcases h.2 with ⟨_,z⟩ | ⟨b,cap,cur,e,hb,hh,r⟩
  ·omega
  ·injection e with e1 e2 e3
   subst e1 e3;have c':∀ i,i<l.length->∀ j,j<3->w.cell? ⟨b,i*3+j,none⟩=(aO (l.getD i ax))[j]?:=fun i hi j hj=>by
    have:=World.ownsRow.cellAt h (i*3+j) (by omega)
    rw [this];exact EJ l i hi j hj
   refine ⟨b,0,rfl,(Array.getElem?_eq_some_iff.1 hh).1,fun i hi=>?_⟩
   rw [Nat.zero_add];exact ⟨c' i hi 0 (by decide),c' i hi 1 (by decide),c' i hi 2 (by decide)⟩
 ·have:l.getD i ax=l[i]:=by simp [List.getD,hi]
  show (l.getD i ax).ok;rw [this];exact ok _ (List.getElem_mem hi)
theorem pC (w:World) (e:ah):∀ j u,(aO e)[j]?=some u->(w.alloc (.cells #[By e.k,By e.v,.bool e.g] 75)).cell? ((⟨w.heap.size,0,none⟩:Addr).add j)=some u:=by
 intro j u hu
 match j,hu with
 | 0,hu=>simp [aO] at hu;subst hu;simp [Addr.add,go_sem]
 | 1,hu=>simp [aO] at hu;subst hu;simp [Addr.add,go_sem]
 | 2,hu=>simp [aO] at hu;subst hu;simp [Addr.add,go_sem]
 | j+3,hu=>simp [aO] at hu
theorem rf {e:ah} (h:w.ownsRow base 75 3 v (l.length+1) (l.flatMap aO++aO e)):EO w base v (l++[e]):=by
 show World.ownsRow _ _ _ _ _ _ _;rw [List.length_append,List.flatMap_append];simpa using h
structure EV (w:World) (ao:Option Addr) (L:List (List ah)):Prop where
 cells:0<L.length->∃ b off,ao=some ⟨b,off,none⟩/\b<w.heap.size/\∀ i,i<L.length->∃ bo c,w.cell? ⟨b,off+i,none⟩=some (.slice bo (L.getD i []).length c)/\(L.getD i []).length<=c/\EL w bo (L.getD i [])/\(bo=none->(L.getD i []).length=0/\c=0)
theorem EV.gw {L:List (List ah)} (h:EV w ao L) (g:Gw w w'):EV w' ao L :=
 ⟨fun h0=>by
  obtain ⟨b,off,e,hb,hc⟩:=h.cells h0;refine ⟨b,off,e,Nat.lt_of_lt_of_le hb g.size,fun i hi=>?_⟩
  obtain ⟨bo,c,h1,h2,h3,h4⟩:=hc i hi;exact ⟨bo,c,(g.cell _ _ hb).trans h1,h2,h3.gw g,h4⟩⟩
theorem aa3:∀ (l:List ah) (k:Nat) (s:ah),k<l.length->(((l.flatMap aO).set (k*3) (By s.k)).set (k*3+1) (By s.v)).set (k*3+2) (.bool s.g)=(l.set k s).flatMap aO:=by
 intro l;induction l with
 | nil=>intro k s hk;simp at hk
 | cons t l ih =>
  intro k s hk;cases k with
  | zero=>simp [aO]
  | succ k =>
   have:=ih k s (by simpa using hk)
   rw [List.set_cons_succ,List.flatMap_cons,List.flatMap_cons,<-this];have e:∀ r,(k+1)*3+r=k*3+r+3:=fun r=>by omega
   have e0:(k+1)*3=k*3+3:=by omega
   rw [e 1,e 2,e0];simp [aO]
def ri (w:World) (g o:Nat) (s:ah):World:=((w.setCell ⟨g,o,none⟩ (By s.k)).setCell ⟨g,o+1,none⟩ (By s.v)).setCell ⟨g,o+2,none⟩ (.bool s.g)
theorem aa4 {g cap k n:Nat} (h:EO w base (.slice (some ⟨g,0,none⟩) n cap) l) (hn:l.length=n) (hk:k<l.length) (s:ah):EO (ri w g (k*3) s) base (.slice (some ⟨g,0,none⟩) n cap) (l.set k s):=by
 subst hn;have h':w.ownsRow base 75 3 (.slice (some ⟨g,0,none⟩) l.length cap) l.length (l.flatMap aO):=h;have r:=(((h'.stored (k*3) (By s.k)).1.stored (k*3+1) (By s.v)).1.stored (k*3+2) (.bool s.g)).1;rw [aa3 l k s hk] at r;show World.ownsRow _ _ _ _ _ _ _;rw [List.length_set];exact r
theorem EK {bo:Option Addr} {n c:Nat} (h:EO w base (.slice bo n c) l) (hn:l.length=n) (h0:0<n):∃ b,bo=some ⟨b,0,none⟩/\base<=b/\b<w.heap.size/\(∀ i,w.frozen? ⟨b,i,none⟩=false)/\∀ i,i<n->w.cell? ⟨b,i*3,none⟩=some (By (l.getD i ax).k)/\w.cell? ⟨b,i*3+1,none⟩=some (By (l.getD i ax).v)/\w.cell? ⟨b,i*3+2,none⟩=some (.bool (l.getD i ax).g):=by
 subst hn;rcases h.2 with ⟨_,z⟩ | ⟨b,cap,cur,e,hb,hh,r⟩
 ·omega
 ·injection e with e1 e2 e3
  subst e1 e3;have c':∀ i,i<l.length->∀ j,j<3->w.cell? ⟨b,i*3+j,none⟩=(aO (l.getD i ax))[j]?:=fun i hi j hj=>by
   have:=World.ownsRow.cellAt h (i*3+j) (by omega)
   rw [this];exact EJ l i hi j hj
  exact ⟨b,rfl,hb,(Array.getElem?_eq_some_iff.1 hh).1,fun i=>by simp [World.frozen?,hh],fun i hi=>⟨c' i hi 0 (by decide),c' i hi 1 (by decide),c' i hi 2 (by decide)⟩⟩
end Go.Proofs.YtcboobmfnmgldaaGreat
