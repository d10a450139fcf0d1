/- Rows of segments, and of lists of segments, of a call's own. -/
import Derived.Laws.IdiomCopy
import Derived.Test.YtemijdhemdhclaaGreatNVCheck
set_option linter.unusedVariables false
open Go.Proofs.Tryz
namespace Go.Proofs.YtemijdhemdhclaaGreat
open Go.RowKit
structure VSf (w:World) (base:Nat) (ao:Option Addr) (L:List (List Sg)):Prop where
 cells:0<L.length->∃ b off,ao=some ⟨b,off,none⟩/\(base<=b/\b<w.heap.size)/\∀ i,i<L.length->∃ bo c,w.cell? ⟨b,off+i,none⟩=some (.slice bo (L.getD i []).length c)/\(L.getD i []).length<=c/\(bo=none->(L.getD i []).length=0/\c=0)/\GS w bo (L.getD i [])/\∀ a,bo=some a->base<=a.block/\a.block<w.heap.size
theorem VSf.vs {w:World} {base:Nat} {ao:Option Addr} {L:List (List Sg)} (h:VSf w base ao L):VS w ao L :=
 ⟨fun h0=>by
  obtain ⟨b,off,e,hb,hc⟩:=h.cells h0;refine ⟨b,off,e,hb.2,fun i hi=>?_⟩
  obtain ⟨bo,c,h1,h2,h3,h4,_⟩:=hc i hi;exact ⟨bo,c,h1,h2,h3,h4⟩⟩
theorem gs_kept {w w':World} {ao:Option Addr} {l:List Sg} (h:GS w ao l) (hb:∀ a,ao=some a->w'.heap[a.block]?=w.heap[a.block]?) (hs:w.heap.size<=w'.heap.size):GS w' ao l :=
 ⟨fun h0=>by
  obtain ⟨b,off,rfl,hl,hc⟩:=h.cells h0;have cc:∀ o,w'.cell? ⟨b,o,none⟩=w.cell? ⟨b,o,none⟩:=fun o=>by unfold World.cell?;rw [hb _ rfl]
  exact ⟨b,off,rfl,by omega,fun i hi=>⟨(cc _).trans (hc i hi).c0,(cc _).trans (hc i hi).c1,(cc _).trans (hc i hi).c2,(cc _).trans (hc i hi).c3,(cc _).trans (hc i hi).c4⟩⟩,h.ok⟩
theorem VSf.keep {w w':World} {base:Nat} {ao:Option Addr} {L:List (List Sg)} (h:VSf w base ao L) (k:∀ q,base<=q->q<w.heap.size->w'.heap[q]?=w.heap[q]?) (hs:w.heap.size<=w'.heap.size):VSf w' base ao L :=
 ⟨fun h0=>by
  obtain ⟨b,off,e,hb,hc⟩:=h.cells h0;refine ⟨b,off,e,⟨hb.1,by omega⟩,fun i hi=>?_⟩
  obtain ⟨bo,c,h1,h2,h3,h4,h5⟩:=hc i hi;refine ⟨bo,c,?_,h2,h3,gs_kept h4 (fun a ea=>k _ (h5 a ea).1 (h5 a ea).2) hs,fun a ea=>⟨(h5 a ea).1,by have:=(h5 a ea).2;omega⟩⟩
  rw [<-h1];unfold World.cell?;rw [k b hb.1 hb.2]⟩
theorem info_sg:(prog.info? 170).map (fun i=>(i.zero,i.size,i.bytes))=some (some (.agg #[.int .u64 0,.float .f64 0,.float .f64 0,.int .i64 0,.int .i64 0]),5,40):=by kernel_rfl
theorem info_sgs:(prog.info? 163).map (fun i=>(i.zero,i.size,i.bytes))=some (some (.slice none 0 0),1,24):=by kernel_rfl
def SR (w:World) (base:Nat) (v:Value) (l:List Sg):Prop:=w.ownsRow base 170 5 v l.length (l.flatMap sgc)
theorem sgc_one (s:Sg):∀ u∈sgc s,u.oneCell'=true:=by
 intro u hu;simp only [sgc,List.mem_cons,List.not_mem_nil,or_false] at hu;rcases hu with rfl | rfl | rfl | rfl | rfl<;>rfl
theorem flat_len:∀ l:List Sg,(l.flatMap sgc).length=l.length*5:=by
 intro l;induction l with
 | nil=>rfl
 | cons s l ih=>rw [List.flatMap_cons,List.length_append,ih,List.length_cons];show 5+l.length*5=_;omega
theorem flat_one (l:List Sg) (s:Sg):(l++[s]).flatMap sgc=l.flatMap sgc++sgc s:=by simp
theorem sr_keep {w w':World} {base:Nat} {v:Value} {l:List Sg} (h:SR w base v l) (k:∀ q,v.ownBlock=some q->w'.heap[q]?=w.heap[q]?):SR w' base v l:=by
 refine ⟨h.1,?_⟩;rcases h.2 with q | ⟨g,cap,cur,rfl,hb,hh,r⟩
 ·exact .inl q
 ·exact .inr ⟨g,cap,cur,rfl,hb,(k g rfl).trans hh,r⟩
theorem sr_lt {w:World} {base:Nat} {v:Value} {l:List Sg} (h:SR w base v l):∀ q,v.ownBlock=some q->base<=q/\q<w.heap.size:=fun q hq=>World.ownsRow.lt h q hq
theorem sr_gw {w w':World} {base:Nat} {v:Value} {l:List Sg} (h:SR w base v l) (g:Gw w w'):SR w' base v l:=sr_keep h fun q hq=>g.below.block q (sr_lt h q hq).2
theorem sr_gs {w:World} {base g cap:Nat} {l:List Sg} (h:SR w base (.slice (some ⟨g,0,none⟩) l.length cap) l) (ok:∀ i,i<l.length->(l.getD i sg0).ok):GS w (some ⟨g,0,none⟩) l:=by
 refine ⟨fun h0=>⟨g,0,rfl,(World.ownsRow.lt h g rfl).2,fun i hi=>?_⟩,ok⟩
 have c:∀ j,j<5->w.cell? ⟨g,0+i*5+j,none⟩=(sgc (l.getD i sg0))[j]?:=fun j hj=>by
  have:=World.ownsRow.cellAt h (i*5+j) (by omega)
  rw [Nat.zero_add,this];exact flat_get l i hi j hj
 exact ⟨c 0 (by decide),c 1 (by decide),c 2 (by decide),c 3 (by decide),c 4 (by decide)⟩
def flc (l:List Sg) (j:Nat):Value:=(l.flatMap sgc).getD j (.int .i64 0)
theorem flc_get (l:List Sg) (j:Nat) (h:j<l.length*5):(l.flatMap sgc)[j]?=some (flc l j):=by
 unfold flc;rw [List.getD_eq_getElem?_getD,List.getElem?_eq_getElem (by rw [flat_len];exact h)]
 rfl
theorem flc_at (l:List Sg) (i:Nat) (hi:i<l.length) (j:Nat) (hj:j<5):(sgc (l.getD i sg0))[j]?=some (flc l (i*5+j)):=by
 rw [<-flat_get l i hi j hj];exact flc_get l _ (by omega)
theorem gs_flat {w:World} {ao:Option Addr} {l:List Sg} (h:GS w ao l) (h0:0<l.length):∃ b off,ao=some ⟨b,off,none⟩/\b<w.heap.size/\∀ j,j<l.length*5->w.cell? ⟨b,off+j,none⟩=some (flc l j):=by
 obtain ⟨b,off,e,hb,hc⟩:=h.cells h0;refine ⟨b,off,e,hb,fun j hj=>?_⟩
 have C:=hc (j/5) (by omega)
 have F:=flc_at l (j/5) (by omega) (j%5) (by omega)
 have ej:j=j/5*5+j%5:=by omega
 generalize l.getD (j/5) sg0=s at C F;generalize j/5=i at *;have r5:j%5<5:=by omega
 generalize j%5=r at *;subst ej
 match r,r5 with
 | 0,_=>rw [<-F];exact C.c0
 | 1,_=>rw [<-F,<-Nat.add_assoc];exact C.c1
 | 2,_=>rw [<-F,<-Nat.add_assoc];exact C.c2
 | 3,_=>rw [<-F,<-Nat.add_assoc];exact C.c3
 | 4,_=>rw [<-F,<-Nat.add_assoc];exact C.c4
theorem made_sg (n:Nat) (hn:n<=4000000) (w:World) :
  (Instr.makeSlice 163 (.int .i64 ((n:Int)+1)) (.int .i64 ((n:Int)+1))).run prog w=.ok (.slice (some ⟨w.heap.size,0,none⟩) (n+1) (n+1)) (w.alloc (.cells (madeCells #[.int .u64 0,.float .f64 0,.float .f64 0,.int .i64 0,.int .i64 0] ((n+1)*5)) 170)):=by
 obtain ⟨i,hi,hz,hs,hb⟩:=info_parts info_sg;have hr:=run_make (P:=prog) w 163 170 i _ underlying163 hi hz .i64 .i64 ((n:Int)+1) ((n:Int)+1) (by omega) (Int.le_refl _) (by rw [hb];omega) (by omega)
 rw [hr,hs];have e1:((n:Int)+1).toNat=n+1:=by omega
 rw [e1];rfl
abbrev nilS:Value:=.slice none 0 0
structure OwnV (w:World) (base:Nat) (v:Value) (L:List (List Sg)) (vals:List Value):Prop where
 outer:w.ownsRow base 163 1 v L.length vals
 rows:∀ i,i<L.length->SR w base (vals.getD i nilS) (L.getD i [])
 apart:∀ i,i<L.length->∀ q,(vals.getD i nilS).ownBlock=some q->v.ownBlock≠some q/\∀ j,j<L.length->(vals.getD j nilS).ownBlock=some q->j=i
theorem OwnV.len {w:World} {base:Nat} {v:Value} {L:List (List Sg)} {vals:List Value} (h:OwnV w base v L vals):vals.length=L.length:=by
 have:=h.outer.1;omega
theorem own_kept {w w':World} {base e size n:Nat} {v:Value} {xs:List Value} (own:w.ownsRow base e size v n xs) (k:∀ q,v.ownBlock=some q->w'.heap[q]?=w.heap[q]?):w'.ownsRow base e size v n xs:=by
 refine ⟨own.1,?_⟩;rcases own.2 with q | ⟨g,cap,cur,rfl,hb,hh,r⟩
 ·exact .inl q
 ·exact .inr ⟨g,cap,cur,rfl,hb,(k g rfl).trans hh,r⟩
theorem OwnV.keep {w w':World} {base:Nat} {v:Value} {L:List (List Sg)} {vals:List Value} (h:OwnV w base v L vals) (k:∀ q,base<=q->q<w.heap.size->w'.heap[q]?=w.heap[q]?):OwnV w' base v L vals :=
 ⟨own_kept h.outer fun q hq=>k q (h.outer.lt q hq).1 (h.outer.lt q hq).2,fun i hi=>sr_keep (h.rows i hi) fun q hq=>k q (sr_lt (h.rows i hi) q hq).1 (sr_lt (h.rows i hi) q hq).2,h.apart⟩
theorem OwnV.gw {w w':World} {base:Nat} {v:Value} {L:List (List Sg)} {vals:List Value} (h:OwnV w base v L vals) (g:Gw w w'):OwnV w' base v L vals:=h.keep fun q _ hq=>g.below.block q hq
theorem sr_form {w:World} {base:Nat} {v:Value} {l:List Sg} (h:SR w base v l):∃ bo c,v=.slice bo l.length c/\l.length<=c/\(bo=none->l.length=0/\c=0)/\∀ a,bo=some a->a=⟨a.block,0,none⟩/\base<=a.block/\a.block<w.heap.size:=by
 have hl:=h.1;rcases h.2 with ⟨e,z⟩ | ⟨g,cap,cur,e,hb,hh,hc,_⟩
 ·exact ⟨none,0,by rw [e,z],by omega,(fun _=>⟨z,rfl⟩),fun a q=>by cases q⟩
 ·exact ⟨some ⟨g,0,none⟩,cap,e,hc,(fun q=>by cases q),fun a q=>by cases q;exact ⟨rfl,hb,(Array.getElem?_eq_some_iff.1 hh).1⟩⟩
theorem OwnV.vsf {w:World} {base:Nat} {lo:Option Addr} {lc:Nat} {L:List (List Sg)} {vals:List Value} (h:OwnV w base (.slice lo L.length lc) L vals) (ok:∀ i,i<L.length->∀ j,j<(L.getD i []).length->((L.getD i []).getD j sg0).ok):VSf w base lo L:=by
 refine ⟨fun h0=>?_⟩
 have vl:=h.len;rcases h.outer.2 with ⟨_,z⟩ | ⟨g,cap,cur,e,hb,hh,_⟩
 ·omega
 ·cases e
  refine ⟨g,0,rfl,⟨hb,(Array.getElem?_eq_some_iff.1 hh).1⟩,fun i hi=>?_⟩
  have R:=h.rows i hi;obtain ⟨bo,c,e1,e2,e3,e4⟩:=sr_form R;have cv:=h.outer.cellAt i (by omega)
  rw [List.getElem?_eq_getElem (by omega)] at cv
  have gd:vals.getD i nilS=vals[i]'(by omega):=by rw [List.getD_eq_getElem?_getD,List.getElem?_eq_getElem (by omega)];rfl
  rw [<-gd,e1] at cv;refine ⟨bo,c,by rw [Nat.zero_add];exact cv,e2,e3,?_,fun a ea=>(e4 a ea).2⟩
  cases bo with
  | none=>exact ⟨fun q=>by have:=(e3 rfl).1;omega,ok i hi⟩
  | some a =>
   obtain ⟨a1,_,_⟩:=e4 a rfl;rw [a1] at e1 ⊢;rw [e1] at R;exact sr_gs R (ok i hi)
def put5 (w:World) (g o:Nat) (s:Sg):World:=((((w.setCell ⟨g,o,none⟩ (.int .u64 s.k)).setCell ⟨g,o+1,none⟩ (.float .f64 s.sl)).setCell ⟨g,o+2,none⟩ (.float .f64 s.ic)).setCell ⟨g,o+3,none⟩ (.int .i64 s.fr)).setCell ⟨g,o+4,none⟩ (.int .i64 s.te)
theorem put5_gw {W w:World} {g o:Nat} {s:Sg} (h:Gw W w) (hg:W.heap.size<=g):Gw W (put5 w g o s):=((((h.setCell hg _).setCell hg _).setCell hg _).setCell hg _).setCell hg _
theorem flat_set:∀ (l:List Sg) (k:Nat) (s:Sg),k<l.length->(((((l.flatMap sgc).set (k*5) (.int .u64 s.k)).set (k*5+1) (.float .f64 s.sl)).set (k*5+2) (.float .f64 s.ic)).set (k*5+3) (.int .i64 s.fr)).set (k*5+4) (.int .i64 s.te)=(l.set k s).flatMap sgc:=by
 intro l;induction l with
 | nil=>intro k s hk;simp at hk
 | cons t l ih =>
  intro k s hk;cases k with
  | zero=>simp [sgc]
  | succ k =>
   have:=ih k s (by simpa using hk)
   rw [List.set_cons_succ,List.flatMap_cons,List.flatMap_cons,<-this];have e:∀ r,(k+1)*5+r=k*5+r+5:=fun r=>by omega
   have e0:(k+1)*5=k*5+5:=by omega
   rw [e 1,e 2,e 3,e 4,e0];simp [sgc]
theorem sr_put {w:World} {base g cap k:Nat} {l:List Sg} (h:SR w base (.slice (some ⟨g,0,none⟩) l.length cap) l) (hk:k<l.length) (s:Sg):SR (put5 w g (k*5) s) base (.slice (some ⟨g,0,none⟩) (l.set k s).length cap) (l.set k s):=by
 have h':w.ownsRow base 170 5 (.slice (some ⟨g,0,none⟩) l.length cap) l.length (l.flatMap sgc):=h;have r:=(((((h'.stored (k*5) (.int .u64 s.k)).1.stored (k*5+1) (.float .f64 s.sl)).1.stored (k*5+2) (.float .f64 s.ic)).1.stored (k*5+3) (.int .i64 s.fr)).1.stored (k*5+4) (.int .i64 s.te)).1;rw [flat_set l k s hk] at r;show World.ownsRow _ _ _ _ _ _ _;rw [List.length_set];exact r
def Lok (L:List (List Sg)):Prop:=∀ i,i<L.length->∀ j,j<(L.getD i []).length->((L.getD i []).getD j sg0).ok
def BuildOwn:Prop:=∀ (eps:Int) (ao:Option Addr) (n cp:Nat) (f:Nat->Int),-9223372036854775808<=eps->eps<9223372036854775808->n<=2000000->n<=cp->∀ w:World,KS w ao n f->Calls prog 93 #[.slice ao n cp,.int .i64 eps] w fun ex w'=>(∃ lo lc L err vals,ex=.returned (.tuple #[.slice lo (L:List (List Sg)).length lc,.int .i64 err])/\BuildE eps f n L err/\L.length<=lc/\OwnV w' w.heap.size (.slice lo L.length lc) L vals/\Lok L)/\Gw w w'
theorem OwnV.more {W w w':World} {o:Obj} {B:Nat} {v v' vl:Value} {L:List (List Sg)} {lv:List Sg} {vals:List Value} (h0:OwnV W B v L vals) (g:Gw W w) (hs:SR w W.heap.size vl lv) (hB:B<=W.heap.size) (r1:w'.ownsRow B 163 1 v' (L.length+1) (vals++[vl])) (r2:(w.alloc o).grownBy w' v.ownBlock) (r4:v'.ownBlock=v.ownBlock\/v'.ownBlock=some (w.heap.size+1)):OwnV w' B v' (L++[lv]) (vals++[vl]):=by
 have vn:=h0.len;have h:=h0.gw g;have keep:∀ q,q<w.heap.size->v.ownBlock≠some q->w'.heap[q]?=w.heap[q]?:=fun q hq hn=>(r2.block q (by simp;omega) (fun e=>hn e.symm)).trans (heap_alloc_old w o hq)
 have oldq:∀ i,i<L.length->∀ q,(vals.getD i nilS).ownBlock=some q->q<W.heap.size:=fun i hi q hq=>(sr_lt (h0.rows i hi) q hq).2
 have vq:∀ q,v.ownBlock=some q->q<W.heap.size:=fun q hq=>(h0.outer.lt q hq).2
 have lvq:∀ q,vl.ownBlock=some q->W.heap.size<=q/\q<w.heap.size:=fun q hq=>sr_lt hs q hq
 have gl:∀ i,i<L.length->(vals++[vl]).getD i nilS=vals.getD i nilS/\(L++[lv]).getD i []=L.getD i []:=fun i hi=>by
  constructor
  ·simp [List.getD,List.getElem?_append_left (show i<vals.length by omega)]
  ·simp [List.getD,List.getElem?_append_left hi]
 have gr:(vals++[vl]).getD L.length nilS=vl/\(L++[lv]).getD L.length []=lv:=by
  constructor
  ·rw [<-vn];simp [List.getD]
  ·simp [List.getD]
 refine ⟨by rw [List.length_append];exact r1,fun i hi=>?_,fun i hi q hq=>?_⟩
 ·by_cases e:i<L.length
  ·rw [(gl i e).1,(gl i e).2]
   exact sr_keep (h.rows i e) fun q hq=>keep q (Nat.lt_of_lt_of_le (oldq i e q hq) g.size) (fun hv=>(h0.apart i e q hq).1 hv)
  ·have ei:i=L.length:=by rw [List.length_append] at hi;simp at hi;omega
   subst ei;rw [gr.1,gr.2];have:=sr_keep hs fun q hq=>keep q (lvq q hq).2 (fun hv=>by have:=vq q hv;have:=lvq q hq;omega)
   refine ⟨this.1,?_⟩;rcases this.2 with q | ⟨b,cap,cur,e1,e2,e3⟩
   ·exact .inl q
   ·exact .inr ⟨b,cap,cur,e1,Nat.le_trans hB e2,e3⟩
 ·by_cases e:i<L.length
  ·rw [(gl i e).1] at hq
   have q1:=oldq i e q hq;have ap:=h0.apart i e q hq;refine ⟨fun hv=>?_,fun j hj hjq=>?_⟩
   ·rcases r4 with r | r
    ·exact ap.1 (by rw [<-r];exact hv)
    ·rw [r] at hv;have:w.heap.size+1=q:=by simpa using hv
     have:=g.size;omega
   ·by_cases e2:j<L.length
    ·rw [(gl j e2).1] at hjq;exact ap.2 j e2 hjq
    ·have ej:j=L.length:=by rw [List.length_append] at hj;simp at hj;omega
     subst ej;rw [gr.1] at hjq;have:=lvq q hjq;omega
  ·have ei:i=L.length:=by rw [List.length_append] at hi;simp at hi;omega
   subst ei;rw [gr.1] at hq;have q1:=lvq q hq;refine ⟨fun hv=>?_,fun j hj hjq=>?_⟩
   ·rcases r4 with r | r
    ·rw [r] at hv;have:=vq q hv;omega
    ·rw [r] at hv;have:w.heap.size+1=q:=by simpa using hv
     omega
   ·by_cases e2:j<L.length
    ·rw [(gl j e2).1] at hjq;have:=oldq j e2 q hjq;omega
    ·rw [List.length_append] at hj;simp at hj;omega
theorem take_next {L:List (List Sg)} {i:Nat} (h:i<L.length):L.take (i+1)=L.take i++[L.getD i []]:=by
 rw [List.take_add_one,List.getElem?_eq_getElem h,List.getD_eq_getElem?_getD,List.getElem?_eq_getElem h];rfl
theorem vs_ok8 {w:World} {lo:Option Addr} {L:List (List Sg)} (h:VS w lo L):∀ i,i<L.length->∀ j,j<(L.getD i []).length->((L.getD i []).getD j sg0).ok:=fun i hi j hj=>by
 obtain ⟨b,off,_,_,hc⟩:=h.cells (by omega)
 obtain ⟨bo,c,_,_,_,g⟩:=hc i hi;exact g.ok j hj
end Go.Proofs.YtemijdhemdhclaaGreat
