import Derived.Test.YtaemofgeciklkaaGreatEVCheck
set_option linter.unusedVariables false
open Go.Proofs.Tryz
namespace Go.Proofs.YtaemofgeciklkaaGreat
open Go.RowKit
structure iG (w:World) (base:Nat) (ao:Option Addr) (L:List (List Sg)):Prop where
 cells:0<L.length->∃ b off,ao=some (φ b off)/\(base<=b/\b<w.heap.size)/\∀ i,i<L.length->∃ bo c,w.cell? (φ b (off+i))=some (.slice bo (L.getD i []).length c)/\(L.getD i []).length<=c/\(bo=none->(L.getD i []).length=0/\c=0)/\GS w bo (L.getD i [])/\∀ a,bo=some a->base<=a.block/\a.block<w.heap.size
variable {w:World} {base:Nat} {ao:Option Addr} {L:List (List Sg)}
theorem iG.vs (h:iG w base ao L):VS w ao L :=
 ⟨fun h0=>by
  obtain ⟨b,off,e,hb,hc⟩:=h.cells h0;refine ⟨b,off,e,hb.2,fun i hi=>?_⟩
  obtain ⟨bo,c,h1,h2,h3,h4,_⟩:=hc i hi;exact ⟨bo,c,h1,h2,h3,h4⟩⟩
variable {w':World} {l:List Sg}
theorem abI (h:GS w ao l) (hb:∀ a,ao=some a->w'.heap[a.block]?=w.heap[a.block]?) (hs:w.heap.size<=w'.heap.size):GS w' ao l :=
 ⟨fun h0=>by
  obtain ⟨b,off,rfl,hl,hc⟩:=h.cells h0;have cc:∀ o,w'.cell? (φ b o)=w.cell? (φ b o):=fun o=>by unfold World.cell?;rw [hb _ rfl]
  exact ⟨b,off,rfl,ω,fun i hi=>⟨(cc _).trans (hc i hi).c0,(cc _).trans (hc i hi).c1,(cc _).trans (hc i hi).c2,(cc _).trans (hc i hi).c3,(cc _).trans (hc i hi).c4⟩⟩,h.ok⟩
theorem iG.keep (h:iG w base ao L) (k:∀ q,base<=q->q<w.heap.size->w'.heap[q]?=w.heap[q]?) (hs:w.heap.size<=w'.heap.size):iG w' base ao L :=
 ⟨fun h0=>by
  obtain ⟨b,off,e,hb,hc⟩:=h.cells h0;refine ⟨b,off,e,⟨hb.1,ω⟩,fun i hi=>?_⟩
  obtain ⟨bo,c,h1,h2,h3,h4,h5⟩:=hc i hi;refine ⟨bo,c,?_,h2,h3,abI h4 (fun a ea=>k _ (h5 a ea).1 (h5 a ea).2) hs,fun a ea=>⟨(h5 a ea).1,by have:=(h5 a ea).2;omega⟩⟩
  rw [<-h1];unfold World.cell?;rw [k b hb.1 hb.2]⟩
theorem iG.gw (h:iG w base ao L) (g:Gw w w'):iG w' base ao L:=h.keep (fun q _ hq=>g.below.block q hq) g.size
def abJ (base:Nat) (w':World) (ex:Ending) (eps:Int) (f:Nat->Int) (n:Nat):Prop:=∃ lo lc L err,ex=π #[.slice lo (L:List (List Sg)).length lc,By err]/\qX eps f n L err/\iG w' base lo L/\L.length<=lc
theorem Bq:(prog.info? 174).map (fun i=>(i.zero,i.size,i.bytes))=some (some (.agg #[BY 0,.float .f64 0,.float .f64 0,By 0,By 0]),5,40):=η
theorem Br:(prog.info? 150).map (fun i=>(i.zero,i.size,i.bytes))=some (some (.slice none 0 0),1,24):=η
def SR (w:World) (base:Nat) (v:Value) (l:List Sg):Prop:=w.ownsRow base 174 5 v l.length (l.flatMap dc)
theorem OS (s:Sg):∀ u∈dc s,u.oneCell'=true:=by intro u hu;simp only [dc,qaf,List.not_mem_nil,or_false] at hu;rcases hu with rfl | rfl | rfl | rfl | rfl<;>rfl
theorem vA:∀ l:List Sg,(l.flatMap dc).length=l.length*5:=by
 intro l;induction l with
 | nil=>rfl
 | cons s l ih=>rw [qaK,Ψ,ih,qak];show 5+l.length*5=_;omega
theorem OT (l:List Sg) (s:Sg):(l++[s]).flatMap dc=l.flatMap dc++dc s:=ε
variable {v:Value}
theorem vB (h:SR w base v l) (k:∀ q,v.ownBlock=some q->w'.heap[q]?=w.heap[q]?):SR w' base v l:=by
 refine ⟨h.1,?_⟩;rcases h.2 with q | ⟨g,cap,cur,rfl,hb,hh,r⟩
 ·exact .inl q
 ·exact .inr ⟨g,cap,cur,rfl,hb,(k g rfl).trans hh,r⟩
theorem lS (h:SR w base v l):∀ q,v.ownBlock=some q->base<=q/\q<w.heap.size:=fun q hq=>World.ownsRow.lt h q hq
theorem Bt (h:SR w base v l) (g:Gw w w'):SR w' base v l:=vB h fun q hq=>g.below.block q (lS h q hq).2
theorem abK (w:World) (base:Nat) (hb:base<=w.heap.size):SR (w.alloc (.cells #[] 174)) base (ψ w.heap.size 0 0 0) []:=World.ownsRow_made w #[] 0 hb (Γ _) rfl
variable {g:Nat}
theorem Gt {cap:Nat} (h:SR w base (ψ g 0 l.length cap) l) (ok:∀ i,i<l.length->(l.getD i aF).ok):GS w (some (φ g 0)) l:=by
 refine ⟨fun h0=>⟨g,0,rfl,(World.ownsRow.lt h g rfl).2,fun i hi=>?_⟩,ok⟩
 have c:∀ j,j<5->w.cell? (φ g (0+i*5+j))=(dc (l.getD i aF))[j]?:=fun j hj=>by
  have:=World.ownsRow.cellAt h (i*5+j) ω
  rw [qai,this];exact Bp l i hi j hj
 exact ⟨c 0 γ,c 1 γ,c 2 γ,c 3 γ,c 4 γ⟩
theorem abL (w:World) (s:Sg):∀ j u,(dc s)[j]?=some u->(w.alloc (.cells #[BY s.k,.float .f64 s.sl,.float .f64 s.ic,By s.fr,By s.te] 174)).cell? ((⟨w.heap.size,0,none⟩:Addr).add j)=some u:=by intro j u hu;have h:=Ω w (.cells #[BY s.k,.float .f64 s.sl,.float .f64 s.ic,By s.fr,By s.te] 174);rw [Addr.add_lit,qai];simp only [World.cell?,h];simpa [dc] using hu
def ox (l:List Sg) (j:Nat):Value:=(l.flatMap dc).getD j (By 0)
theorem Gu (l:List Sg) (j:Nat) (h:j<l.length*5):(l.flatMap dc)[j]?=some (ox l j):=by
 unfold ox;rw [qag,qah (by rw [vA];exact h)]
 rfl
theorem abM (l:List Sg) (i:Nat) (hi:i<l.length) (j:Nat) (hj:j<5):(dc (l.getD i aF))[j]?=some (ox l (i*5+j)):=by rw [<-Bp l i hi j hj];exact Gu l _ ω
theorem abN (h:GS w ao l) (h0:0<l.length):∃ b off,ao=some (φ b off)/\b<w.heap.size/\∀ j,j<l.length*5->w.cell? (φ b (off+j))=some (ox l j):=by
 obtain ⟨b,off,e,hb,hc⟩:=h.cells h0;refine ⟨b,off,e,hb,fun j hj=>?_⟩
 have C:=hc (j/5) ω;have F:=abM l (j/5) ω (j%5) ω;have ej:j=j/5*5+j%5:=ω;generalize l.getD (j/5) aF=s at C F;generalize j/5=i at *;have r5:j%5<5:=ω;generalize j%5=r at *;subst ej
 match r,r5 with
 | 0,_=>rw [<-F];exact C.c0
 | 1,_=>rw [<-F,<-Nat.add_assoc];exact C.c1
 | 2,_=>rw [<-F,<-Nat.add_assoc];exact C.c2
 | 3,_=>rw [<-F,<-Nat.add_assoc];exact C.c3
 | 4,_=>rw [<-F,<-Nat.add_assoc];exact C.c4
theorem abO (n:Nat) (hn:n<=4000000) (w:World) :
  (Instr.makeSlice 150 (By ((n:Int)+1)) (By ((n:Int)+1))).run prog w=.ok (ψ w.heap.size 0 (n+1) (n+1)) (w.alloc (.cells (madeCells #[BY 0,.float .f64 0,.float .f64 0,By 0,By 0] ((n+1)*5)) 174)):=by
 obtain ⟨i,hi,hz,hs,hb⟩:=info_parts Bq;have hr:=run_make (P:=prog) w 150 174 i _ underlying150 hi hz .i64 .i64 ((n:Int)+1) ((n:Int)+1) ω (qaH _) (by rw [hb];omega) ω
 rw [hr,hs];have e1:((n:Int)+1).toNat=n+1:=ω;rw [e1];rfl
abbrev im:Value:=.slice none 0 0
structure cZ (w:World) (base:Nat) (v:Value) (L:List (List Sg)) (au:List Value):Prop where
 outer:w.ownsRow base 150 1 v L.length au
 rows:∀ i,i<L.length->SR w base (au.getD i im) (L.getD i [])
 apart:∀ i,i<L.length->∀ q,(au.getD i im).ownBlock=some q->v.ownBlock≠some q/\∀ j,j<L.length->(au.getD j im).ownBlock=some q->j=i
variable {au:List Value}
theorem cZ.len (h:cZ w base v L au):au.length=L.length:=by have:=h.outer.1;omega
theorem OX {e size n:Nat} {xs:List Value} (own:w.ownsRow base e size v n xs) (k:∀ q,v.ownBlock=some q->w'.heap[q]?=w.heap[q]?):w'.ownsRow base e size v n xs:=by
 refine ⟨own.1,?_⟩;rcases own.2 with q | ⟨g,cap,cur,rfl,hb,hh,r⟩
 ·exact .inl q
 ·exact .inr ⟨g,cap,cur,rfl,hb,(k g rfl).trans hh,r⟩
theorem cZ.keep (h:cZ w base v L au) (k:∀ q,base<=q->q<w.heap.size->w'.heap[q]?=w.heap[q]?):cZ w' base v L au :=
 ⟨OX h.outer fun q hq=>k q (h.outer.lt q hq).1 (h.outer.lt q hq).2,fun i hi=>vB (h.rows i hi) fun q hq=>k q (lS (h.rows i hi) q hq).1 (lS (h.rows i hi) q hq).2,h.apart⟩
theorem cZ.gw (h:cZ w base v L au) (g:Gw w w'):cZ w' base v L au:=h.keep fun q _ hq=>g.below.block q hq
theorem abP (h:SR w base v l):∃ bo c,v=.slice bo l.length c/\l.length<=c/\(bo=none->l.length=0/\c=0)/\∀ a,bo=some a->a=⟨a.block,0,none⟩/\base<=a.block/\a.block<w.heap.size:=by
 have hl:=h.1;rcases h.2 with ⟨e,z⟩ | ⟨g,cap,cur,e,hb,hh,hc,_⟩
 ·exact ⟨none,0,by rw [e,z],ω,(fun _=>⟨z,rfl⟩),fun a q=>by cases q⟩
 ·exact ⟨some ⟨g,0,none⟩,cap,e,hc,(fun q=>by cases q),fun a q=>by cases q;exact ⟨rfl,hb,(qab.1 hh).1⟩⟩
theorem cZ.vsf {lo:Option Addr} {lc:Nat} (h:cZ w base (.slice lo L.length lc) L au) (ok:∀ i,i<L.length->∀ j,j<(L.getD i []).length->((L.getD i []).getD j aF).ok):iG w base lo L:=by
 refine ⟨fun h0=>?_⟩
 have vl:=h.len;rcases h.outer.2 with ⟨_,z⟩ | ⟨g,cap,cur,e,hb,hh,_⟩
 ·omega
 ·cases e
  refine ⟨g,0,rfl,⟨hb,(qab.1 hh).1⟩,fun i hi=>?_⟩
  have R:=h.rows i hi;obtain ⟨bo,c,e1,e2,e3,e4⟩:=abP R;have cv:=h.outer.cellAt i ω;rw [qah ω] at cv;have gd:au.getD i im=au[i]'(by omega):=by rw [qag,qah ω];rfl
  rw [<-gd,e1] at cv;refine ⟨bo,c,by rw [qai];exact cv,e2,e3,?_,fun a ea=>(e4 a ea).2⟩
  cases bo with
  | none=>exact ⟨fun q=>by have:=(e3 rfl).1;omega,ok i hi⟩
  | some a =>
   obtain ⟨a1,_,_⟩:=e4 a rfl;rw [a1] at e1 ⊢;rw [e1] at R;exact Gt R (ok i hi)
def sY (w:World) (g o:Nat) (s:Sg):World:=((((w.setCell (φ g o) (BY s.k)).setCell (φ g (o+1)) (.float .f64 s.sl)).setCell (φ g (o+2)) (.float .f64 s.ic)).setCell (φ g (o+3)) (By s.fr)).setCell (φ g (o+4)) (By s.te)
theorem Gv {W:World} {o:Nat} {s:Sg} (h:Gw W w) (hg:W.heap.size<=g):Gw W (sY w g o s):=((((h.setCell hg _).setCell hg _).setCell hg _).setCell hg _).setCell hg _
theorem abQ:∀ (l:List Sg) (k:Nat) (s:Sg),k<l.length->(((((l.flatMap dc).set (k*5) (BY s.k)).set (k*5+1) (.float .f64 s.sl)).set (k*5+2) (.float .f64 s.ic)).set (k*5+3) (By s.fr)).set (k*5+4) (By s.te)=(l.set k s).flatMap dc:=by
 intro l;induction l with
 | nil=>intro k s hk;simp at hk
 | cons t l ih =>
  intro k s hk;cases k with
  | zero=>simp [dc]
  | succ k =>
   have:=ih k s (by simpa using hk)
   rw [List.set_cons_succ,qaK,qaK,<-this];have e:∀ r,(k+1)*5+r=k*5+r+5:=fun r=>ω
   have e0:(k+1)*5=k*5+5:=ω;rw [e 1,e 2,e 3,e 4,e0];simp [dc]
theorem OY {cap k:Nat} (h:SR w base (ψ g 0 l.length cap) l) (hk:k<l.length) (s:Sg):SR (sY w g (k*5) s) base (ψ g 0 (l.set k s).length cap) (l.set k s):=by have h':w.ownsRow base 174 5 (ψ g 0 l.length cap) l.length (l.flatMap dc):=h;have r:=(((((h'.stored (k*5) (BY s.k)).1.stored (k*5+1) (.float .f64 s.sl)).1.stored (k*5+2) (.float .f64 s.ic)).1.stored (k*5+3) (By s.fr)).1.stored (k*5+4) (By s.te)).1;rw [abQ l k s hk] at r;show World.ownsRow _ _ _ _ _ _ _;rw [List.length_set];exact r
def x6 (L:List (List Sg)):Prop:=∀ i,i<L.length->∀ j,j<(L.getD i []).length->((L.getD i []).getD j aF).ok
def Gy:Prop:=∀ (eps:Int) (ao:Option Addr) (n cp:Nat) (f:Nat->Int),-9223372036854775808<=eps->eps<9223372036854775808->n<=2000000->n<=cp->∀ w:World,KS w ao n f->Calls prog 125 #[.slice ao n cp,By eps] w fun ex w'=>(∃ lo lc L err au,ex=π #[.slice lo (L:List (List Sg)).length lc,By err]/\qX eps f n L err/\L.length<=lc/\cZ w' w.heap.size (.slice lo L.length lc) L au/\x6 L)/\Gw w w'
theorem cZ.more {W:World} {o:Obj} {B:Nat} {v' vl:Value} {lv:List Sg} (h0:cZ W B v L au) (g:Gw W w) (hs:SR w W.heap.size vl lv) (hB:B<=W.heap.size) (r1:w'.ownsRow B 150 1 v' (L.length+1) (au++[vl])) (r2:(w.alloc o).grownBy w' v.ownBlock) (r4:v'.ownBlock=v.ownBlock\/v'.ownBlock=some (w.heap.size+1)):cZ w' B v' (L++[lv]) (au++[vl]):=by
 have vn:=h0.len;have h:=h0.gw g;have keep:∀ q,q<w.heap.size->v.ownBlock≠some q->w'.heap[q]?=w.heap[q]?:=fun q hq hn=>(r2.block q ζ (fun e=>hn e.symm)).trans (qap w o hq)
 have Gz:∀ i,i<L.length->∀ q,(au.getD i im).ownBlock=some q->q<W.heap.size:=fun i hi q hq=>(lS (h0.rows i hi) q hq).2
 have vq:∀ q,v.ownBlock=some q->q<W.heap.size:=fun q hq=>(h0.outer.lt q hq).2
 have Bu:∀ q,vl.ownBlock=some q->W.heap.size<=q/\q<w.heap.size:=fun q hq=>lS hs q hq
 have gl:∀ i,i<L.length->(au++[vl]).getD i im=au.getD i im/\(L++[lv]).getD i []=L.getD i []:=fun i hi=>by
  constructor
  ·simp [List.getD,qau (show i<au.length by omega)]
  ·simp [List.getD,qau hi]
 have gr:(au++[vl]).getD L.length im=vl/\(L++[lv]).getD L.length []=lv:=by
  constructor
  ·rw [<-vn];simp [List.getD]
  ·simp [List.getD]
 refine ⟨by rw [Ψ];exact r1,fun i hi=>?_,fun i hi q hq=>?_⟩
 ·by_cases e:i<L.length
  ·rw [(gl i e).1,(gl i e).2]
   exact vB (h.rows i e) fun q hq=>keep q (Θ (Gz i e q hq) g.size) (fun hv=>(h0.apart i e q hq).1 hv)
  ·have ei:i=L.length:=(by rw [Ψ] at hi;simp at hi;omega);subst ei;rw [gr.1,gr.2];have:=vB hs fun q hq=>keep q (Bu q hq).2 (fun hv=>by have:=vq q hv;have:=Bu q hq;omega)
   refine ⟨this.1,?_⟩;rcases this.2 with q | ⟨b,cap,cur,e1,e2,e3⟩
   ·exact .inl q
   ·exact .inr ⟨b,cap,cur,e1,Φ hB e2,e3⟩
 ·by_cases e:i<L.length
  ·rw [(gl i e).1] at hq
   have q1:=Gz i e q hq;have ap:=h0.apart i e q hq;refine ⟨fun hv=>?_,fun j hj sZ=>?_⟩
   ·rcases r4 with r | r
    ·exact ap.1 (by rw [<-r];exact hv)
    ·rw [r] at hv;have:w.heap.size+1=q:=by simpa using hv
     have:=g.size;omega
   ·by_cases e2:j<L.length
    ·rw [(gl j e2).1] at sZ;exact ap.2 j e2 sZ
    ·have ej:j=L.length:=(by rw [Ψ] at hj;simp at hj;omega);subst ej;rw [gr.1] at sZ;have:=Bu q sZ;omega
  ·have ei:i=L.length:=(by rw [Ψ] at hi;simp at hi;omega);subst ei;rw [gr.1] at hq;have q1:=Bu q hq;refine ⟨fun hv=>?_,fun j hj sZ=>?_⟩
   ·rcases r4 with r | r
    ·rw [r] at hv;have:=vq q hv;omega
    ·rw [r] at hv;have:w.heap.size+1=q:=by simpa using hv
     omega
   ·by_cases e2:j<L.length
    ·rw [(gl j e2).1] at sZ;have:=Gz j e2 q sZ;omega
    ·rw [Ψ] at hj;simp at hj;omega
theorem abR {i:Nat} (h:i<L.length):L.take (i+1)=L.take i++[L.getD i []]:=by rw [qaW,qah h,qag,qah h];rfl
theorem abS {lo:Option Addr} (h:VS w lo L):∀ i,i<L.length->∀ j,j<(L.getD i []).length->((L.getD i []).getD j aF).ok:=fun i hi j hj=>by obtain ⟨b,off,_,_,hc⟩:=h.cells ω;obtain ⟨bo,c,_,_,_,g⟩:=hc i hi;exact g.ok j hj
