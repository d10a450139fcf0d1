import Derived.Test.YtaemofgeciklkaaGreatEPE3
import Derived.Test.YtaemofgeciklkaaGreatEGPlain
set_option linter.unusedVariables false
set_option maxHeartbeats 8000000
set_option maxRecDepth 10000
open Go.Proofs.Tryz
namespace Go.Proofs.YtaemofgeciklkaaGreat
open Go.RowKit
structure KV (w:World) (ao:Option Addr) (K:List (List Int)):Prop where
 cells:0<K.length->∃ b off,ao=some (φ b off)/\b<w.heap.size/\∀ i,i<K.length->∃ bo c,w.cell? (φ b (off+i))=some (.slice bo (K.getD i []).length c)/\KS w bo (K.getD i []).length (fun j=>(K.getD i []).getD j 0)
variable {w w':World} {ao:Option Addr}
theorem KV.gw {K:List (List Int)} (h:KV w ao K) (g:Gw w w'):KV w' ao K :=
 ⟨fun h0=>by
  obtain ⟨b,off,e,hb,hc⟩:=h.cells h0;refine ⟨b,off,e,Θ hb g.size,fun i hi=>?_⟩
  obtain ⟨bo,c,h1,h2⟩:=hc i hi;exact ⟨bo,c,(g.cell _ _ hb).trans h1,h2.gw g⟩⟩
def AT (w:World) (b n:Nat) (a:Nat->Nat):Prop:=∃ cur,w.heap[b]?=some (.cells cur 3 (0,0))/\cur.size=n/\∀ i,i<n->cur[i]?=some (By ((a i:Nat):Int))
variable {b n:Nat} {a:Nat->Nat}
theorem AT.lt (h:AT w b n a):b<w.heap.size:=by obtain ⟨cur,h1,_⟩:=h;exact (qab.1 h1).1
theorem AT.keep (h:AT w b n a) (k:w'.heap[b]?=w.heap[b]?):AT w' b n a:=by obtain ⟨cur,h1,h2⟩:=h;exact ⟨cur,k.trans h1,h2⟩
theorem AT.gw (h:AT w b n a) (g:Gw w w'):AT w' b n a:=h.keep (g.below.block b h.lt)
variable {i:Nat}
theorem AT.cell (h:AT w b n a) (hi:i<n):w.cell? (φ b i)=some (By ((a i:Nat):Int)):=by obtain ⟨cur,h1,_,h3⟩:=h;simp [World.cell?,h1,h3 i hi]
theorem AT.frozen (h:AT w b n a) (i:Nat):w.frozen? (φ b i)=false:=by obtain ⟨cur,h1,_,_⟩:=h;simp [World.frozen?,h1]
theorem AT.set {a':Nat->Nat} (h:AT w b n a) (hi:i<n) (e:∀ j,j<n->a' j=if j=i then a' i else a j):AT (w.setCell (φ b i) (By ((a' i:Nat):Int))) b n a':=by
 obtain ⟨cur,h1,h2,h3⟩:=h;refine ⟨cur.setIfInBounds i (By ((a' i:Nat):Int)),?_,by simpa using h2,fun j hj=>?_⟩
 ·simp [World.setCell,Array.getElem?_modify,h1]
 ·by_cases q:j=i
  ·subst q
   simp [h2,hj]
  ·have:=e j hj
   rw [Yl q] at this;rw [this,Array.getElem?_setIfInBounds_ne (Ne.symm q)];exact h3 j hj
theorem AT.congr {a':Nat->Nat} (h:AT w b n a) (e:∀ j,j<n->a j=a' j):AT w b n a':=by obtain ⟨cur,h1,h2,h3⟩:=h;exact ⟨cur,h1,h2,fun i hi=>by rw [<-e i hi];exact h3 i hi⟩
theorem acG:(prog.info? 3).map (fun i=>(i.zero,i.size,i.bytes))=some (some (By 0),1,8):=η
theorem QM (m:Nat) (z:Int) (hz:z=(m:Int)) (hm:m<=281474976710) (w:World) :
  (Instr.makeSlice 44 (By z) (By z)).run prog w=.ok (ψ w.heap.size 0 m m) (w.alloc (.cells (madeCells #[By 0] m) 3)):=by
 obtain ⟨i,hi,oE,hs,hb⟩:=info_parts acG;subst hz;exact run_make_row (P:=prog) 44 3 i (By 0) underlying44 hi oE hs rfl .i64 .i64 m (by rw [hb];omega) ω w
theorem acH (w:World) (m:Nat):AT (w.alloc (.cells (madeCells #[By 0] m) 3)) w.heap.size m (fun _=>0):=by
 refine ⟨_,Ω w _,by simp [madeCells],fun i hi=>?_⟩
 simp [madeCells,hi,Nat.mod_one]
def kA (p:Nat×Nat):List Value:=[By (p.1:Int),By (p.2:Int)]
theorem acI (s:Nat×Nat):∀ u∈kA s,u.oneCell'=true:=by intro u hu;simp only [kA,qaf,List.not_mem_nil,or_false] at hu;rcases hu with rfl | rfl<;>rfl
theorem acJ:(prog.info? 166).map (fun i=>(i.zero,i.size,i.bytes))=some (some (.agg #[By 0,By 0]),2,16):=η
def gI (w:World) (base:Nat) (v:Value) (P:List (Nat×Nat)):Prop:=w.ownsRow base 166 2 v P.length (P.flatMap kA)
variable {base:Nat} {v:Value} {P:List (Nat×Nat)}
theorem tH (h:gI w base v P) (g:Gw w w'):gI w' base v P:=by
 refine ⟨h.1,?_⟩;rcases h.2 with q | ⟨b,cap,cur,rfl,hb,hh,r⟩
 ·exact .inl q
 ·exact .inr ⟨b,cap,cur,rfl,hb,(g.below.block b (qab.1 hh).1).trans hh,r⟩
theorem acK (h:gI w base v P) (k:∀ q,v.ownBlock=some q->w'.heap[q]?=w.heap[q]?):gI w' base v P:=by
 refine ⟨h.1,?_⟩;rcases h.2 with q | ⟨b,cap,cur,rfl,hb,hh,r⟩
 ·exact .inl q
 ·exact .inr ⟨b,cap,cur,rfl,hb,(k b rfl).trans hh,r⟩
theorem acL (w:World) (p:Nat×Nat):∀ j u,(kA p)[j]?=some u->(w.alloc (.cells #[By (p.1:Int),By (p.2:Int)] 166)).cell? ((⟨w.heap.size,0,none⟩:Addr).add j)=some u:=by
 intro j u hu
 match j,hu with
 | 0,hu =>
  simp [kA] at hu
  subst hu;simp [Addr.add,go_sem]
 | 1,hu =>
  simp [kA] at hu
  subst hu;simp [Addr.add,go_sem]
 | j+2,hu=>simp [kA] at hu
theorem acM:∀ (l:List (Nat×Nat)) (i:Nat),i<l.length->∀ j,j<2->(l.flatMap kA)[i*2+j]?=(kA (l.getD i (0,0)))[j]?:=by
 intro l;induction l with
 | nil=>intro i hi;simp at hi
 | cons s l ih =>
  intro i hi j hj;rw [qaK];cases i with
  | zero =>
   rw [qaR,qai,qau (by show j<2;exact hj)]
   rfl
  | succ i =>
   have e:(i+1)*2+j=i*2+j+2:=ω;rw [e,qaZ (by show 2<=_;omega),show i*2+j+2-(kA s).length=i*2+j by show i*2+j+2-2=_;omega]
   exact ih i (by simpa using hi) j hj
theorem acN {cap:Nat} (h:gI w base (ψ b 0 P.length cap) P) (hi:i<P.length):w.cell? (φ b (i*2))=some (By ((P.getD i (0,0)).1:Int))/\w.cell? (φ b (i*2+1))=some (By ((P.getD i (0,0)).2:Int)):=by
 have c:∀ j,j<2->w.cell? (φ b (i*2+j))=(kA (P.getD i (0,0)))[j]?:=fun j hj=>by
  have:=World.ownsRow.cellAt h (i*2+j) ω
  rw [this];exact acM P i hi j hj
 exact ⟨c 0 γ,c 1 γ⟩
structure ah where
 k:Int
 v:Int
 g:Bool
def aq:ah:=⟨0,0,false⟩
def ah.ok (e:ah):Prop:=(0<=e.k/\e.k<18446744073709551616)/\(0<=e.v/\e.v<18446744073709551616)
def aI (e:ah):List Value:=[BY e.k,BY e.v,.bool e.g]
def EL (w:World) (ao:Option Addr) (l:List ah):Prop:=ES w ao l.length (fun i=>(l.getD i aq).k) (fun i=>(l.getD i aq).v) (fun i=>(l.getD i aq).g)
variable {l:List ah}
theorem EL.gw (h:EL w ao l) (g:Gw w w'):EL w' ao l:=ES.gw h g
theorem EL.ok (h:EL w ao l) (hi:i<l.length):(l.getD i aq).ok:=h.bd i hi
theorem EL.all (h:EL w ao l):∀ e∈l,e.ok:=by intro e he;obtain ⟨i,hi,rfl⟩:=List.mem_iff_getElem.1 he;have:=h.ok hi;rwa [show l.getD i aq=l[i] by simp [List.getD,hi]] at this
theorem kC (e:ah):∀ u∈aI e,u.oneCell'=true:=by intro u hu;simp only [aI,qaf,List.not_mem_nil,or_false] at hu;rcases hu with rfl | rfl | rfl<;>rfl
def EO (w:World) (base:Nat) (v:Value) (l:List ah):Prop:=w.ownsRow base 71 3 v l.length (l.flatMap aI)
theorem lU (h:EO w base v l) (k:∀ q,v.ownBlock=some q->w'.heap[q]?=w.heap[q]?):EO w' base v l:=by
 refine ⟨h.1,?_⟩;rcases h.2 with q | ⟨b,cap,cur,rfl,hb,hh,r⟩
 ·exact .inl q
 ·exact .inr ⟨b,cap,cur,rfl,hb,(k b rfl).trans hh,r⟩
theorem nC (h:EO w base v l) (g:Gw w w'):EO w' base v l:=lU h fun q hq=>g.below.block q (World.ownsRow.lt h q hq).2
theorem tI {ni:Nat} (h:EO w base v l) (hb:ni<=base):EO w ni v l:=by
 refine ⟨h.1,?_⟩;rcases h.2 with q | ⟨b,cap,cur,rfl,hg,r⟩
 ·exact .inl q
 ·exact .inr ⟨b,cap,cur,rfl,Φ hb hg,r⟩
theorem Im:∀ (l:List ah) (i:Nat),i<l.length->∀ j,j<3->(l.flatMap aI)[i*3+j]?=(aI (l.getD i aq))[j]?:=by
 intro l;induction l with
 | nil=>intro i hi;simp at hi
 | cons s l ih =>
  intro i hi j hj;rw [qaK];cases i with
  | zero =>
   rw [qaR,qai,qau (by show j<3;exact hj)]
   rfl
  | succ i =>
   have e:(i+1)*3+j=i*3+j+3:=ω;rw [e,qaZ (by show 3<=_;omega),show i*3+j+3-(aI s).length=i*3+j by show i*3+j+3-3=_;omega]
   exact ih i (by simpa using hi) j hj
theorem je {c:Nat} (h:EO w base (.slice ao l.length c) l) (ok:∀ e∈l,e.ok):EL w ao l:=by
 refine ⟨fun h0=>?_,fun i hi=>?_⟩
 ·rcases h.2 with ⟨_,z⟩ | ⟨b,cap,cur,e,hb,hh,r⟩
  ·omega
  ·injection e with e1 e2 e3
   subst e1 e3;have c':∀ i,i<l.length->∀ j,j<3->w.cell? (φ b (i*3+j))=(aI (l.getD i aq))[j]?:=fun i hi j hj=>by
    have:=World.ownsRow.cellAt h (i*3+j) ω
    rw [this];exact Im l i hi j hj
   refine ⟨b,0,rfl,(qab.1 hh).1,fun i hi=>?_⟩
   rw [qai];exact ⟨c' i hi 0 γ,c' i hi 1 γ,c' i hi 2 γ⟩
 ·have:l.getD i aq=l[i]:=by simp [List.getD,hi]
  show (l.getD i aq).ok;rw [this];exact ok _ (qaz hi)
theorem lV (w:World) (e:ah):∀ j u,(aI e)[j]?=some u->(w.alloc (.cells #[BY e.k,BY e.v,.bool e.g] 71)).cell? ((⟨w.heap.size,0,none⟩:Addr).add j)=some u:=by
 intro j u hu
 match j,hu with
 | 0,hu=>simp [aI] at hu;subst hu;simp [Addr.add,go_sem]
 | 1,hu=>simp [aI] at hu;subst hu;simp [Addr.add,go_sem]
 | 2,hu=>simp [aI] at hu;subst hu;simp [Addr.add,go_sem]
 | j+3,hu=>simp [aI] at hu
theorem QN (w:World) (base:Nat) (hb:base<=w.heap.size):EO (w.alloc (.cells #[] 71)) base (ψ w.heap.size 0 0 0) []:=World.ownsRow_made w #[] 0 hb (Γ _) rfl
theorem pQ {e:ah} (h:w.ownsRow base 71 3 v (l.length+1) (l.flatMap aI++aI e)):EO w base v (l++[e]):=by show World.ownsRow _ _ _ _ _ _ _;rw [Ψ,List.flatMap_append];simpa using h
structure EV (w:World) (ao:Option Addr) (L:List (List ah)):Prop where
 cells:0<L.length->∃ b off,ao=some (φ b off)/\b<w.heap.size/\∀ i,i<L.length->∃ bo c,w.cell? (φ b (off+i))=some (.slice bo (L.getD i []).length c)/\(L.getD i []).length<=c/\EL w bo (L.getD i [])/\(bo=none->(L.getD i []).length=0/\c=0)
theorem EV.gw {L:List (List ah)} (h:EV w ao L) (g:Gw w w'):EV w' ao L :=
 ⟨fun h0=>by
  obtain ⟨b,off,e,hb,hc⟩:=h.cells h0;refine ⟨b,off,e,Θ hb g.size,fun i hi=>?_⟩
  obtain ⟨bo,c,h1,h2,h3,h4⟩:=hc i hi;exact ⟨bo,c,(g.cell _ _ hb).trans h1,h2,h3.gw g,h4⟩⟩
def oF (n:Nat) (f:Nat->Int) (k:Int):Bool:=(List.range n).any fun i=>f i == k
def eu (n:Nat) (f:Nat->Int) (e:ah):Bool:=!e.g||oF n f e.k
theorem acO (ao:Option Addr) (n c:Nat) (f:Nat->Int) (q:Int) (hn:n<=4000000) (w:World) (h:KS w ao n f) :
  Calls prog 113 #[.slice ao n c,BY q] w fun e w'=>e=χ (.bool (oF n f q))/\w'=w:=by
 have HK:ag _:=h;clear h;go_enter func113,ntmps113;go_wp2_with fail;go_loopg [5] n (fun gg s wr=>∃ i:Nat,s=By (i:Int)/\i<=n/\n-i<=gg/\ag (∀ j,j<i->f j≠q)/\wr=w)
 case atStart=>exact ⟨0,rfl,Γ _,ω,(show ag _ from fun j hj=>ω),rfl⟩
 case round =>
  obtain ⟨i,rfl,a1,a2,NO,rfl⟩:=hrel;by_cases ar:i<n
  ·have dH:(i:Int)<(n:Int):=(by omega);obtain ⟨lb,iJ,rfl,dO,bL⟩:=HK.o.cells ω;have kc:=bL i ar;clear bL;by_cases e:f i=q
   ·have pK:ag (oF n f q=true):=(by show _=_;unfold oF;rw [List.any_eq_true];exact ⟨i,List.mem_range.2 ar,by simpa using e⟩);have e':(f i == q)=true:=(by simpa using e);generalize f i=fi at kc e';clear e;go_wp2_with fail;go_ret;exact ⟨by rw [pK.o];rfl,rfl⟩
   ·have Io:ag (∀ j,j<i+1->f j≠q):=fun j hj=>by
     by_cases x:j=i
     ·rw [x];exact e
     ·exact NO.o j ω
    have e':(f i == q)=false:=(by simpa using e);generalize f i=fi at kc e';clear e NO;go_wp2_with fail;go_roundg (n-(i+1))
    case measure=>omega
    case rel=>exact ⟨i+1,by go_num,ω,Yk _,Io,rfl⟩
  ·have ei:i=n:=(by omega);subst ei;have NOT:ag (oF i f q=false):=(by show _=_;unfold oF;rw [List.any_eq_false];intro j hj;have:=NO.o j (List.mem_range.1 hj);simpa using this);go_wp2_with fail;go_ret
   exact ⟨by rw [NOT.o];rfl,rfl⟩
theorem acP (ao:Option Addr) (c:Nat) (l:List ah) (qo:Option Addr) (qn qc:Nat) (qf:Nat->Int) (hn:l.length<=4000000) (hqn:qn<=4000000) (w:World) (h:EL w ao l) (hq:KS w qo qn qf) :
  Calls prog 93 #[.slice ao l.length c,.slice qo qn qc] w fun e w'=>(∃ ob oc,e=χ (ψ ob 0 (l.filter (eu qn qf)).length oc)/\EO w' w.heap.size (ψ ob 0 (l.filter (eu qn qf)).length oc) (l.filter (eu qn qf)))/\Gw w w':=by
 have HE:ag _:=h;have LV:ag (∀ W,Gw w W->∀ q:Int,Calls prog 113 #[.slice qo qn qc,BY q] W fun e w'=>e=χ (.bool (oF qn qf q))/\w'=W):=fun W gg q=>acO qo qn qc qf q hqn W (hq.gw gg)
 obtain ⟨n,ax⟩:=qbr l.length;have LN:ag _:=ax;rw [ax] at hn ⊢;clear h hq ax;obtain ⟨ii,aK,hz,hs,aJ⟩:=info_parts kZ;have E1:ag (EO (w.alloc (.cells #[] 71)) w.heap.size (ψ w.heap.size 0 0 0) []):=QN w _ (Yk _);have G1:ag (Gw w (w.alloc (.cells #[] 71))):=(Gw.refl w).alloc _ _;go_enter func93,ntmps93;go_wp2_with fail;generalize w.alloc (.cells #[] 71)=w1 at E1 G1 ⊢;go_loopg [5,6] n (fun gg s5 s6 wr=>∃ (i m ob oc:Nat),s5=ψ ob 0 m oc/\s6=By (i:Int)/\i<=n/\n-i<=gg/\m<=i/\ag (((l.take i).filter (eu qn qf)).length=m)/\ag (EO wr w.heap.size (ψ ob 0 m oc) ((l.take i).filter (eu qn qf)))/\ag (Gw w wr))
 case atStart=>exact ⟨0,0,w.heap.size,0,rfl,rfl,Γ _,ω,Yk _,(by show _=_;simp),(by show EO _ _ _ _;simpa using E1.o),G1⟩
 case round =>
  clear E1 G1;obtain ⟨i,m,ob,oc,rfl,rfl,a1,a2,a3,ML,E,G⟩:=hrel;by_cases ar:i<n
  ·have dH:(i:Int)<(n:Int):=(by omega);obtain ⟨lb,iJ,rfl,dO,bL⟩:=(ES.gw HE.o G.o).cells (by rw [LN.o];omega)
   obtain ⟨c0,c1,c2⟩:=bL i (by rw [LN.o];exact ar)
   have TK:ag ((l.take (i+1)).filter (eu qn qf)=(l.take i).filter (eu qn qf)++(if eu qn qf (l.getD i aq)=true then [l.getD i aq] else [])):=by show _=_;have e:l.take (i+1)=l.take i++[l.getD i aq]:=(by rw [qaW,qah (by rw [LN.o];exact ar),qag,qah (by rw [LN.o];exact ar)];rfl);rw [e,List.filter_append,List.filter_cons];split<;>rfl
   obtain ⟨x,hx⟩:=qbr (l.getD i aq);rw [hx] at c0 c1 c2 TK;obtain ⟨xk,xv,xg⟩:=x;have d0:wr.cell? (φ lb (iJ+i*3))=some (BY xk):=c0;have d1:wr.cell? (φ lb (iJ+i*3+1))=some (BY xv):=c1;have d2:wr.cell? (φ lb (iJ+i*3+2))=some (.bool xg):=c2;have dB:ag (wr.ownsRow w.heap.size 71 3 (ψ ob 0 m oc) m (((l.take i).filter (eu qn qf)).flatMap aI)):=by
    have:=E.o
    unfold EO at this;rw [ML.o] at this;exact this
   have wz:=G.o.size;clear bL c0 c1 c2 hx;have gX:ag (eu qn qf ⟨xk,xv,xg⟩=false->((l.take (i+1)).filter (eu qn qf))=(l.take i).filter (eu qn qf)):=fun q=>by rw [TK.o,Yl (by rw [q];decide),qaJ]
   have kD:ag (eu qn qf ⟨xk,xv,xg⟩=true->((l.take (i+1)).filter (eu qn qf))=(l.take i).filter (eu qn qf)++[⟨xk,xv,xg⟩]):=fun q=>by rw [TK.o,Ym q]
   clear TK;obtain ⟨kp,tJ⟩:=qbr (oF qn qf xk);have KP:ag (eu qn qf ⟨xk,xv,xg⟩=(!xg||kp)):=by show _=_;rw [<-tJ];rfl
   have tK:=fun W gg=>LV.o W gg xk
   rw [tJ] at tK;have pR:ag _:=tK;clear tK tJ;have aD:ag (∀ (v':Value) (w5:World),eu qn qf ⟨xk,xv,xg⟩=true->w5.ownsRow w.heap.size 71 3 v' (m+1) (((l.take i).filter (eu qn qf)).flatMap aI++aI ⟨xk,xv,xg⟩)->EO w5 w.heap.size v' ((l.take (i+1)).filter (eu qn qf))/\((l.take (i+1)).filter (eu qn qf)).length=m+1):=fun v' w5 q r=>by
    rw [kD.o q];refine ⟨pQ ?_,?_⟩
    ·rw [ML.o];exact r
    ·rw [Ψ,ML.o];rfl
   cases xg with
   | false =>
    go_wp2_with (at_builtin;refine wpList_append_own _ rfl _ _ 72 rfl w.heap.size 71 ii (.agg #[BY 0,BY 0,.bool false]) 3 24 underlying72 aK hz hs aJ rfl γ _ m _ rfl (dB.o.alloc _) ⟨wr.heap.size,0,none⟩ 1 1 (aI ⟨xk,xv,false⟩) rfl rfl (lV wr ⟨xk,xv,false⟩) (kC _) θ ω ζ ?_)
    intro v' w5 r1 r2 r3;obtain ⟨b5,cB,rfl,dZ,_,_⟩:=cJ r1 (by simpa using r3)
    obtain ⟨f1,f2⟩:=aD.o _ w5 (by rw [KP.o];rfl) r1
    have E5:ag _:=f1;have M5:ag _:=f2;have G5:ag (Gw w w5):=(G.o.alloc _ _).grown r2 (fun q hq=>(World.ownsRow.lt dB.o q hq).1)
    clear r1 r2 r3 f1 f2 E dB aD kD gX pR d0 d1 d2;go_wp2_with fail;go_roundg (n-(i+1))
    case measure=>omega
    case rel=>exact ⟨i+1,m+1,b5,cB,rfl,by go_num,ω,Yk _,ω,M5,E5,G5⟩
   | true =>
    go_wp2_with fail;refine Calls.mono (pR.o _ G.o) ?_
    rintro e w3 ⟨rfl,e3⟩;have e4:=e3.symm;subst e4;clear e3;cases kp with
    | true =>
     go_wp2_with (at_builtin;refine wpList_append_own _ rfl _ _ 72 rfl w.heap.size 71 ii (.agg #[BY 0,BY 0,.bool false]) 3 24 underlying72 aK hz hs aJ rfl γ _ m _ rfl (dB.o.alloc _) ⟨wr.heap.size,0,none⟩ 1 1 (aI ⟨xk,xv,true⟩) rfl rfl (lV wr ⟨xk,xv,true⟩) (kC _) θ ω ζ ?_)
     intro v' w5 r1 r2 r3;obtain ⟨b5,cB,rfl,dZ,_,_⟩:=cJ r1 (by simpa using r3)
     obtain ⟨f1,f2⟩:=aD.o _ w5 (by rw [KP.o];rfl) r1
     have E5:ag _:=f1;have M5:ag _:=f2;have G5:ag (Gw w w5):=(G.o.alloc _ _).grown r2 (fun q hq=>(World.ownsRow.lt dB.o q hq).1)
     clear r1 r2 r3 f1 f2 E dB aD kD gX pR d0 d1 d2;go_wp2_with fail;go_roundg (n-(i+1))
     case measure=>omega
     case rel=>exact ⟨i+1,m+1,b5,cB,rfl,by go_num,ω,Yk _,ω,M5,E5,G5⟩
    | false =>
     have ST:=gX.o (by rw [KP.o];rfl)
     have E5:ag (EO wr w.heap.size (ψ ob 0 m oc) ((l.take (i+1)).filter (eu qn qf))):=(by rw [ST];exact E.o);have M5:ag (((l.take (i+1)).filter (eu qn qf)).length=m):=(by rw [ST];exact ML.o);clear ST aD kD gX pR;go_wp2_with fail;go_roundg (n-(i+1))
     case measure=>omega
     case rel=>exact ⟨i+1,m,ob,oc,rfl,by go_num,ω,Yk _,ω,M5,E5,G⟩
  ·have ei:i=n:=(by omega);subst ei;have TT:l.take i=l:=qaQ (by rw [LN.o];exact Yk _)
   rw [TT] at ML E;have yI:ag _:=ML;have E2:ag (EO wr w.heap.size (ψ ob 0 (l.filter (eu qn qf)).length oc) (l.filter (eu qn qf))):=(by rw [yI.o];exact E.o);clear ML E TT;go_wp2_with fail;refine bodyPost_ret (v:=ψ ob 0 m oc) (by simp [results,results93,go_sem]) rfl ⟨⟨ob,oc,by rw [yI.o],E2.o⟩,G.o⟩
theorem acQ:∀ (l:List ah) (k:Nat) (s:ah),k<l.length->(((l.flatMap aI).set (k*3) (BY s.k)).set (k*3+1) (BY s.v)).set (k*3+2) (.bool s.g)=(l.set k s).flatMap aI:=by
 intro l;induction l with
 | nil=>intro k s hk;simp at hk
 | cons t l ih =>
  intro k s hk;cases k with
  | zero=>simp [aI]
  | succ k =>
   have:=ih k s (by simpa using hk)
   rw [List.set_cons_succ,qaK,qaK,<-this];have e:∀ r,(k+1)*3+r=k*3+r+3:=fun r=>ω
   have e0:(k+1)*3=k*3+3:=ω;rw [e 1,e 2,e0];simp [aI]
def put3 (w:World) (g o:Nat) (s:ah):World:=((w.setCell (φ g o) (BY s.k)).setCell (φ g (o+1)) (BY s.v)).setCell (φ g (o+2)) (.bool s.g)
theorem acR {g cap k:Nat} (h:EO w base (ψ g 0 n cap) l) (hn:l.length=n) (hk:k<l.length) (s:ah):EO (put3 w g (k*3) s) base (ψ g 0 n cap) (l.set k s):=by subst hn;have h':w.ownsRow base 71 3 (ψ g 0 l.length cap) l.length (l.flatMap aI):=h;have r:=(((h'.stored (k*3) (BY s.k)).1.stored (k*3+1) (BY s.v)).1.stored (k*3+2) (.bool s.g)).1;rw [acQ l k s hk] at r;show World.ownsRow _ _ _ _ _ _ _;rw [List.length_set];exact r
theorem Ip {bo:Option Addr} {c:Nat} (h:EO w base (.slice bo n c) l) (hn:l.length=n) (h0:0<n):∃ b,bo=some (φ b 0)/\base<=b/\b<w.heap.size/\(∀ i,w.frozen? (φ b i)=false)/\∀ i,i<n->w.cell? (φ b (i*3))=some (BY (l.getD i aq).k)/\w.cell? (φ b (i*3+1))=some (BY (l.getD i aq).v)/\w.cell? (φ b (i*3+2))=some (.bool (l.getD i aq).g):=by
 subst hn;rcases h.2 with ⟨_,z⟩ | ⟨b,cap,cur,e,hb,hh,r⟩
 ·omega
 ·injection e with e1 e2 e3
  subst e1 e3;have c':∀ i,i<l.length->∀ j,j<3->w.cell? (φ b (i*3+j))=(aI (l.getD i aq))[j]?:=fun i hi j hj=>by
   have:=World.ownsRow.cellAt h (i*3+j) ω
   rw [this];exact Im l i hi j hj
  exact ⟨b,rfl,hb,(qab.1 hh).1,fun i=>by simp [World.frozen?,hh],fun i hi=>⟨c' i hi 0 γ,c' i hi 1 γ,c' i hi 2 γ⟩⟩
def dD (K:List (List Int)) (p:Nat×Nat):Int:=(K.getD p.1 []).getD p.2 0
def cV (K:List (List Int)) (i:Nat):Nat:=(K.getD i []).length
def FI (key:Nat×Nat->Int) (len a:Nat->Nat) (i:Nat) (z:Int):Prop:=(z=-1/\∀ j,j<i->¬ a j<len j)\/∃ f:Nat,z=f/\f<i/\a f<len f/\(∀ j,j<f->a j<len j->key (f,a f)<key (j,a j))/\∀ j,j<i->a j<len j->key (f,a f)<=key (j,a j)
theorem FI.zero (key:Nat×Nat->Int) (len a:Nat->Nat):FI key len a 0 (-1):=.inl ⟨rfl,fun j hj=>ω⟩
variable {key:Nat×Nat->Int} {len:Nat->Nat}
theorem FI.skip {z:Int} (h:FI key len a i z) (hi:¬ a i<len i):FI key len a (i+1) z:=by
 rcases h with ⟨e,h⟩ | ⟨f,e,h1,h2,h3,h4⟩
 ·refine .inl ⟨e,fun j hj=>?_⟩
  by_cases q:j=i
  ·rw [q];exact hi
  ·exact h j ω
 ·refine .inr ⟨f,e,ω,h2,h3,fun j hj hl=>?_⟩
  by_cases q:j=i
  ·rw [q] at hl;exact absurd hl hi
  ·exact h4 j ω hl
theorem FI.first (h:FI key len a i (-1)) (hi:a i<len i):FI key len a (i+1) i:=by
 rcases h with ⟨e,h⟩ | ⟨f,e,_⟩
 ·refine .inr ⟨i,rfl,ω,hi,fun j hj hl=>absurd hl (h j hj),fun j hj hl=>?_⟩
  by_cases q:j=i
  ·rw [q];exact qaH _
  ·exact absurd hl (h j ω)
 ·omega
variable {f:Nat}
theorem FI.less (h:FI key len a i f) (hi:a i<len i) (k:key (i,a i)<key (f,a f)):FI key len a (i+1) i:=by
 rcases h with ⟨e,_⟩ | ⟨f',e,h1,h2,h3,h4⟩
 ·omega
 ·have:f=f':=by omega
  subst this;refine .inr ⟨i,rfl,ω,hi,fun j hj hl=>?_,fun j hj hl=>?_⟩
  ·have:=h4 j hj hl;omega
  ·by_cases q:j=i
   ·rw [q];exact qaH _
   ·have:=h4 j ω hl;omega
theorem FI.more (h:FI key len a i f) (hi:a i<len i) (k:¬ key (i,a i)<key (f,a f)):FI key len a (i+1) f:=by
 rcases h with ⟨e,_⟩ | ⟨f',e,h1,h2,h3,h4⟩
 ·omega
 ·have:f=f':=by omega
  subst this;refine .inr ⟨f,rfl,ω,h2,h3,fun j hj hl=>?_⟩
  by_cases q:j=i
  ·rw [q];omega
  ·exact h4 j ω hl
structure MI (key:Nat×Nat->Int) (ln:Nat) (len a:Nat->Nat) (P:List (Nat×Nat)):Prop where
 cn:∀ o,Mg key (eT ln len a) o->Mg key (eT ln len fun _=>0) (P++o)
 al:∀ i,i<ln->a i<=len i
 pb:∀ p∈P,p.1<ln/\p.2<len p.1
theorem MI.start (key:Nat×Nat->Int) (ln:Nat) (len:Nat->Nat):MI key ln len (fun _=>0) []:=⟨fun o h=>h,fun _ _=>Γ _,fun p hp=>by cases hp⟩
variable {ln:Nat}
theorem MI.more (h:MI key ln len a P) (hf:FI key len a ln f):MI key ln len (jc key (key (f,a f)) len a) (P++[(f,a f)]):=by
 rcases hf with ⟨e,_⟩ | ⟨f',e,h1,h2,h3,h4⟩
 ·omega
 ·have:f=f':=by omega
  subst this;have ls:=acz (key:=key) h1 h2 h3 h4;refine ⟨fun o ho=>?_,fun i hi=>?_,fun p hp=>?_⟩
  ·rw [qaI]
   refine h.cn _ (.step ls ?_);rw [acx];exact ho
  ·unfold jc
   have:=h.al i hi
   split<;>omega
  ·rcases qaq.1 hp with q | q
   ·exact h.pb p q
   ·rw [qbg.1 q];exact ⟨h1,h2⟩
theorem MI.done (h:MI key ln len a P) (hf:FI key len a ln (-1)):Mg key (eT ln len fun _=>0) P:=by
 rcases hf with ⟨_,q⟩ | ⟨f',e,_⟩
 ·have:=h.cn [] (.done (acy q))
  rwa [qaJ] at this
 ·omega
theorem MI.few (h:MI key ln len a P):P.length<=aN (eT ln len fun _=>0):=by obtain ⟨o,ho⟩:=Mg.ex key _ (eT ln len a) (Yk _);have:=(h.cn o ho).few;rw [Ψ] at this;omega
def kE (p a:Nat->Nat) (j t:Nat):Nat:=if t<j then p t else a t
theorem acS (p a:Nat->Nat) (t:Nat):kE p a 0 t=a t:=Yl ω
theorem acT {p:Nat->Nat} {j t:Nat} (h:t<j):kE p a j t=p t:=Ym h
theorem QO (p a:Nat->Nat) (j:Nat):kE p a j j=a j:=Yl ω
theorem Ct (p a:Nat->Nat) (j t:Nat):kE p a (j+1) t=if t=j then p j else kE p a j t:=by
 unfold kE;by_cases e:t=j
 ·rw [Ym ω,Ym e,e]
 ·rw [Yl e]
  by_cases e2:t<j
  ·rw [Ym ω,Ym e2]
  ·rw [Yl ω,Yl e2]
theorem acU (ko:Option Addr) (kc:Nat) (K:List (List Int)) (hl:K.length<=2000000) (hs:∀ i,i<K.length->cV K i<=2000000) (hN:aN (eT K.length (cV K) fun _=>0)<=2000000) (w:World) (h:KV w ko K) :
  Calls prog 112 #[.slice ko K.length kc] w fun e w'=>(∃ ob oc P,e=χ (ψ ob 0 P.length oc)/\gI w' (w.heap.size+1) (ψ ob 0 P.length oc) P/\Mg (dD K) (eT K.length (cV K) fun _=>0) P/\∀ p∈P,p.1<K.length/\p.2<cV K p.1)/\Gw w w':=by
 have HK:ag _:=h;have HS:ag (∀ i,i<K.length->cV K i<=2000000):=hs;obtain ⟨ln,ax⟩:=qbr K.length;have LN:ag _:=ax;rw [ax] at hl hN HS ⊢;clear h hs ax;have mk:=QM ln (ln:Int) rfl ω w;have A1:ag (AT (w.alloc (.cells (madeCells #[By 0] ln) 3)) w.heap.size ln (fun _=>0)):=acH w ln
 have G1:ag (Gw w (w.alloc (.cells (madeCells #[By 0] ln) 3))):=(Gw.refl w).alloc _ _;have Z0:ag ((w.alloc (.cells (madeCells #[By 0] ln) 3)).heap.size=w.heap.size+1):=by show _=_;simp
 obtain ⟨ii,aK,hz,eI,aJ⟩:=info_parts acJ;go_enter func112,ntmps112;go_wp2_with fail;generalize w.alloc (.cells (madeCells #[By 0] ln) 3)=w1 at A1 G1 Z0 ⊢;obtain ⟨ab,cN⟩:=qbr w.heap.size;have AB:ag _:=cN;have Z1:w1.heap.size=ab+1:=by have:=Z0.o;omega
 have G2:ag (Gw w (w1.alloc (.cells #[] 166))):=G1.o.alloc _ _;have P2:ag (gI (w1.alloc (.cells #[] 166)) (ab+1) (ψ (ab+1) 0 0 0) []):=by
  have:=World.ownsRow_made (base:=ab+1) (e:=166) (size:=2) w1 #[] 0 ω (Γ _) rfl
  rw [Z1] at this;exact this
 have A2:ag (AT (w1.alloc (.cells #[] 166)) ab ln (fun _=>0)):=by
  have:=A1.o.gw ((Gw.refl w1).alloc #[] 166)
  rw [cN] at this;exact this
 rw [cN];clear A1 G1 mk Z0;generalize w1.alloc (.cells #[] 166)=w2 at G2 P2 A2 ⊢;obtain ⟨N,Iq⟩:=qbr (aN (eT ln (cV K) fun _=>0))
 have NN:ag _:=Iq;rw [Iq] at hN;clear Iq cN Z1;go_loopg [4] N (fun gg s4 wr=>∃ (P:List (Nat×Nat)) (a:Nat->Nat) (m ob oc:Nat),s4=ψ ob 0 m oc/\N-m<=gg/\m<=N/\ag (P.length=m)/\ag (MI (dD K) ln (cV K) a P)/\ag (AT wr ab ln a)/\ag (gI wr (ab+1) (ψ ob 0 P.length oc) P)/\ag (Gw w wr))
 case atStart=>exact ⟨[],fun _=>0,0,ab+1,0,rfl,ω,Γ _,rfl,(show ag _ from MI.start _ _ _),A2,P2,G2⟩
 case round =>
  clear P2 A2 G2;obtain ⟨P,a,m,ob,oc,rfl,m1,m2,PM,I,A,R,G⟩:=hrel;obtain ⟨wS,aS⟩:=qbs wr;subst aS;have QP:ab<wS.heap.size:=A.o.lt;have pT:ab+1<=ob:=(R.o.lt ob rfl).1;go_wp2_with fail;go_loopg [5,6] ln (fun gg s5 s6 wr=>∃ (i:Nat) (z:Int),s5=By z/\s6=By (i:Int)/\i<=ln/\ln-i<=gg/\ag (FI (dD K) (cV K) a i z)/\ag (Gw wS wr))
  case atStart=>exact ⟨0,-1,rfl,rfl,Γ _,ω,(show ag _ from FI.zero _ _ _),(show ag _ from Gw.refl wS)⟩
  case round=>as_aux_lemma =>
   obtain ⟨i,z,rfl,rfl,b1,b2,F,GG⟩:=hrel;obtain ⟨wT,Ir⟩:=qbs wr;subst Ir;by_cases dP:i<ln
   ·have QR:(i:Int)<(ln:Int):=(by omega);have QT:ab<wT.heap.size:=Θ QP GG.o.size;obtain ⟨kb,acV,rfl,iq,di⟩:=((HK.o.gw G.o).gw GG.o).cells (by rw [LN.o];omega)
    obtain ⟨ro,rc,r1,r2⟩:=di i (by rw [LN.o];exact dP)
    have ac:=(A.o.gw GG.o).cell dP;obtain ⟨li,tL⟩:=qbr ((K.getD i []).length);have LI:ag (cV K i=li):=tL;have lib:li<=2000000:=(by have:=HS.o i dP;have e:=LI.o;omega);rw [tL] at r1 r2;obtain ⟨ai,tM⟩:=qbr (a i);have AI:ag _:=tM;rw [tM] at ac;clear tL tM;by_cases al:ai<li
    ·have tN:(ai:Int)<(li:Int):=(by omega);have AL:ag (a i<cV K i):=(by show _<_;rw [AI.o,LI.o];exact al);obtain ⟨rb,acW,rfl,vO,vE⟩:=r2.cells ω;have Is:=vE ai al;have KI:ag (dD K (i,a i)=(K.getD i []).getD ai 0):=(by show _=_;unfold dD;rw [AI.o]);generalize (K.getD i []).getD ai 0=ki at Is KI;clear vE r2;rcases F.o with ⟨rfl,_⟩ | ⟨f,rfl,f1,f2,_,_⟩
     ·have F':ag (FI (dD K) (cV K) a (i+1) i):=F.o.first AL.o
      clear F;go_wp2_with fail;go_quiet (fail);go_wp2_with fail;go_roundg (ln-(i+1))
      case measure=>omega
      case rel=>exact ⟨i+1,i,rfl,by go_num,ω,Yk _,F',(show ag _ from GG.o.drewN _)⟩
     ·have fz:decide ((f:Int)<0)=false:=qan ω
      have fl':(f:Int)<(ln:Int):=ω;obtain ⟨so,sc,q1,q2⟩:=di f (by rw [LN.o];omega)
      have fc:=(A.o.gw GG.o).cell (i:=f) ω;obtain ⟨jh,yJ⟩:=qbr ((K.getD f []).length);have f3:a f<(K.getD f []).length:=f2;rw [yJ] at q1 q2 f3;obtain ⟨af,rD⟩:=qbr (a f);have KF:ag (dD K (f,a f)=(K.getD f []).getD af 0):=(by show _=_;unfold dD;rw [rD]);rw [rD] at fc f3;have f3':(af:Int)<(jh:Int):=ω;obtain ⟨sb,acX,rfl,rE,rF⟩:=q2.cells ω;have Cu:=rF af f3;generalize (K.getD f []).getD af 0=kf at Cu KF;have lfb:jh<=2000000:=(by have:cV K f<=_:=HS.o f ω;unfold cV at this;omega);clear rF q2 yJ rD f2;by_cases kl:ki<kf
      ·have F':ag (FI (dD K) (cV K) a (i+1) i):=F.o.less AL.o (by rw [KI.o,KF.o];exact kl)
       clear F;go_wp2_with fail;go_quiet (fail);go_wp2_with fail;go_roundg (ln-(i+1))
       case measure=>omega
       case rel=>exact ⟨i+1,i,rfl,by go_num,ω,Yk _,F',(show ag _ from GG.o.drewN _)⟩
      ·have F':ag (FI (dD K) (cV K) a (i+1) f):=F.o.more AL.o (by rw [KI.o,KF.o];exact kl)
       have kl':decide (ki<kf)=false:=qan kl;clear F kl;go_wp2_with fail;go_quiet (fail);go_wp2_with fail;go_roundg (ln-(i+1))
       case measure=>omega
       case rel=>exact ⟨i+1,f,rfl,by go_num,ω,Yk _,F',(show ag _ from GG.o.drewN _)⟩
    ·have tN:decide (ai<li)=false:=qan al
     have F':ag _:=F.o.skip (by rw [AI.o,LI.o];exact al)
     clear F al;go_wp2_with fail;go_quiet (fail);go_wp2_with fail;go_roundg (ln-(i+1))
     case measure=>omega
     case rel=>exact ⟨i+1,z,rfl,by go_num,ω,Yk _,F',(show ag _ from GG.o.drewN _)⟩
   ·have ei:i=ln:=(by omega);subst ei;rcases F.o with ⟨rfl,_⟩ | ⟨f,rfl,f1,f2,_,_⟩
    ·have MD:ag (Mg (dD K) (eT i (cV K) fun _=>0) P):=I.o.done F.o
     have PW:ag (gI wT (w.heap.size+1) (ψ ob 0 P.length oc) P):=by
      have:=tH R.o GG.o
      rw [AB.o];exact this
     go_wp2_with fail;exact bodyPost_ret (v:=ψ ob 0 m oc) (by simp [results,results112,go_sem]) rfl ⟨⟨ob,oc,P,by rw [PM.o],PW.o,MD.o,I.o.pb⟩,G.o.trans GG.o⟩
    ·have fz:¬ (f:Int)<0:=(by omega);have fl':(f:Int)<(i:Int):=ω;have QT:ab<wT.heap.size:=Θ QP GG.o.size;have fc:=(A.o.gw GG.o).cell (i:=f) f1;have MM:ag _:=I.o.more F.o;have mlt:m<N:=by
      have:=MM.o.few
      rw [NN.o,Ψ,PM.o] at this;simp at this;omega
     have f3:a f<(K.getD f []).length:=f2;obtain ⟨af,rD⟩:=qbr (a f);have AF:ag _:=rD;have KF:ag (dD K (f,a f)=(K.getD f []).getD af 0):=(by show _=_;unfold dD;rw [rD]);rw [rD] at fc f3 MM;obtain ⟨kf,QU⟩:=qbr ((K.getD f []).getD af 0);have QV:ag _:=QU;have KE:ag (dD K (f,af)=kf):=by
      have:=KF.o
      rw [AF.o,QV.o] at this;exact this
     have G3:ag _:=G.o.trans GG.o;have R3:ag (wT.ownsRow (ab+1) 166 2 (ψ ob 0 m oc) m (P.flatMap kA)):=by
      have:=tH R.o GG.o
      unfold gI at this;rw [PM.o] at this;exact this
     have NW:ag _:=acL wT (f,af);have A3:ag (AT wT ab i a):=A.o.gw GG.o;clear F QU rD KF f2 R;go_wp2_with (at_builtin;refine wpList_append_own _ rfl _ _ 163 rfl (ab+1) 166 ii (.agg #[By 0,By 0]) 2 16 underlying163 aK hz eI aJ rfl γ _ m _ rfl (R3.o.alloc _) ⟨wT.heap.size,0,none⟩ 1 1 (kA (f,af)) rfl rfl NW.o (acI _) θ ω ζ ?_);intro v' w5 r1 r2 r3;obtain ⟨b5,cB,rfl,dZ,_,_⟩:=cJ r1 (by simpa using r3)
     have G5:ag (Gw w w5):=(G3.o.alloc _ _).grown r2 (fun q hq=>(by have e':ob=q:=(by simpa [Value.ownBlock] using hq);have:=AB.o;omega))
     have R5:ag (gI w5 (ab+1) (ψ b5 0 (P++[(f,af)]).length cB) (P++[(f,af)])):=(by show World.ownsRow _ _ _ _ _ _ _;rw [Ψ,PM.o,List.flatMap_append];simpa using r1);have A5:ag (AT w5 ab i a):=A3.o.keep ((r2.block ab ζ (fun e=>(by have e':ab=ob:=(by simpa [Value.ownBlock] using e);omega))).trans (qap wT _ QT))
     clear r1 r2 r3 R3 A3 NW G3 A;have ab5:ab<w5.heap.size:=A5.o.lt;obtain ⟨kb,acV,rfl,iq,di⟩:=(HK.o.gw G5.o).cells (by rw [LN.o];omega)
     obtain ⟨so,sc,q1,q2⟩:=di f (by rw [LN.o];exact f1)
     have QW:=A5.o.cell (i:=f) f1;rw [AF.o] at QW;obtain ⟨jh,yJ⟩:=qbr ((K.getD f []).length);rw [yJ] at q1 q2 f3;have f3':(af:Int)<(jh:Int):=ω;obtain ⟨sb,acX,rfl,rE,rF⟩:=q2.cells ω;have Cu:=rF af f3;rw [QV.o] at Cu;have lfb:jh<=2000000:=(by have:cV K f<=_:=HS.o f f1;unfold cV at this;omega);clear rF q2 yJ di fc;go_wp2_with fail;go_quiet (fail);have G6:ag (Gw w (w5.drewN nq)):=G5.o.drewN _;have R6:ag (gI (w5.drewN nq) (ab+1) (ψ b5 0 (P++[(f,af)]).length cB) (P++[(f,af)])):=tH R5.o ((Gw.refl _).drewN _);have A6:ag (AT (w5.drewN nq) ab i a):=A5.o.gw ((Gw.refl _).drewN _);clear q1 Cu rE iq QW ab5 R5 A5 G5;generalize w5.drewN nq=w6 at G6 R6 A6 ⊢;go_wp2_with fail;go_loopg [8] i (fun gg s8 wr=>∃ j:Nat,s8=By (j:Int)/\j<=i/\i-j<=gg/\ag (AT wr ab i (kE (jc (dD K) kf (cV K) a) a j))/\ag (gI wr (ab+1) (ψ b5 0 (P++[(f,af)]).length cB) (P++[(f,af)]))/\ag (Gw w wr))
     case atStart=>exact ⟨0,rfl,Γ _,ω,(show ag _ from A6.o.congr fun t _=>(acS _ _ t).symm),R6,G6⟩
     case round=>as_aux_lemma =>
      clear A6 R6 G6;obtain ⟨j,rfl,j1,j2,AA,RR,GR⟩:=hrel;obtain ⟨wU,hwU⟩:=qbs wr;subst hwU;by_cases kF:j<i
      ·have It:(j:Int)<(i:Int):=(by omega);have abu:ab<wU.heap.size:=AA.o.lt;obtain ⟨vP,air,ek,iq,di⟩:=(HK.o.gw GR.o).cells (by rw [LN.o];omega)
       cases ek
       obtain ⟨ro,rc,r1,r2⟩:=di j (by rw [LN.o];exact kF)
       have ac:=AA.o.cell kF;rw [QO] at ac;have af0:=AA.o.frozen j;obtain ⟨li,tL⟩:=qbr ((K.getD j []).length);have LI:ag (cV K j=li):=tL;have lib:li<=2000000:=(by have:=HS.o j kF;have e:=LI.o;omega);rw [tL] at r1 r2;obtain ⟨ai,tM⟩:=qbr (a j);have AI:ag _:=tM;rw [tM] at ac;clear tL tM di;have oG:ag (¬ (a j<cV K j/\dD K (j,a j)=kf)->∀ W,AT W ab i (kE (jc (dD K) kf (cV K) a) a j)->AT W ab i (kE (jc (dD K) kf (cV K) a) a (j+1))):=fun no W hW=>hW.congr fun t ht=>by
        rw [Ct];by_cases e:t=j
        ·rw [Ym e,e,QO,Ig no]
        ·rw [Yl e]
       by_cases al:ai<li
       ·have tN:(ai:Int)<(li:Int):=(by omega);obtain ⟨rb,acW,rfl,vO,vE⟩:=r2.cells ω;have Is:=vE ai al;have KI:ag (dD K (j,a j)=(K.getD j []).getD ai 0):=(by show _=_;unfold dD;rw [AI.o]);generalize (K.getD j []).getD ai 0=ki at Is KI;clear vE r2;by_cases kq:ki=kf
        ·have kq':(ki == kf)=true:=(by simpa using kq);have PA:ag (jc (dD K) kf (cV K) a j=ai+1):=(by show _=_;rw [Qw ⟨by rw [AI.o,LI.o];exact al,by rw [KI.o];exact kq⟩,AI.o]);have wi:IntKind.i64.wrap ((ai:Int)+1)=((ai+1:Nat):Int):=(by rw [Δ];omega);have A7:ag (AT (wU.setCell (φ ab j) (By ((ai+1:Nat):Int))) ab i (kE (jc (dD K) kf (cV K) a) a (j+1))):=by
          have e2:kE (jc (dD K) kf (cV K) a) a (j+1) j=ai+1:=(by rw [Ct,Ym rfl,PA.o]);have:=AA.o.set (a':=kE (jc (dD K) kf (cV K) a) a (j+1)) kF (fun t ht=>by rw [Ct,Ct,Ym rfl])
          rw [e2] at this;exact this
         have R7:ag (gI (wU.setCell (φ ab j) (By ((ai+1:Nat):Int))) (ab+1) (ψ b5 0 (P++[(f,af)]).length cB) (P++[(f,af)])):=acK RR.o fun q hq=>qac _ _ _ _ (fun e=>by have h1:=(World.ownsRow.lt RR.o q hq).1;first | (have e':q=ab:=e;omega) | (have e':ab=q:=e;omega))
         have G7:ag (Gw w (wU.setCell (φ ab j) (By ((ai+1:Nat):Int)))):=GR.o.setCell (by rw [AB.o];exact Yk _) _
         clear oG kq;go_wp2_with fail;go_quiet (fail);go_wp2_with fail;have ce:((ai+1:Nat):Int)=(ai:Int)+1:=ω;rw [ce] at A7 R7 G7;go_roundg (i-(j+1))
         case measure=>omega
         case rel=>exact ⟨j+1,by go_num,ω,Yk _,(show ag _ from A7.o.gw ((Gw.refl _).drewN nq)),(show ag _ from tH R7.o ((Gw.refl _).drewN nq)),(show ag _ from G7.o.drewN nq)⟩
        ·have kq':(ki == kf)=false:=(by simpa using kq);have A7:ag (AT (wU.drewN 0) ab i (kE (jc (dD K) kf (cV K) a) a (j+1))):=oG.o (fun x=>kq (by rw [<-KI.o];exact x.2)) wU AA.o
         clear oG kq;go_wp2_with fail;go_quiet (fail);go_wp2_with fail;go_roundg (i-(j+1))
         case measure=>omega
         case rel=>exact ⟨j+1,by go_num,ω,Yk _,(show ag _ from A7.o.gw ((Gw.refl _).drewN _)),(show ag _ from tH RR.o ((Gw.refl _).drewN _)),(show ag _ from GR.o.drewN _)⟩
       ·have tN:decide (ai<li)=false:=qan al
        have A7:ag (AT wU ab i (kE (jc (dD K) kf (cV K) a) a (j+1))):=oG.o (fun x=>al (by rw [<-AI.o,<-LI.o];exact x.1)) wU AA.o
        clear oG al;go_wp2_with fail;go_quiet (fail);go_wp2_with fail;go_roundg (i-(j+1))
        case measure=>omega
        case rel=>exact ⟨j+1,by go_num,ω,Yk _,(show ag _ from A7.o.gw ((Gw.refl _).drewN _)),(show ag _ from tH RR.o ((Gw.refl _).drewN _)),(show ag _ from GR.o.drewN _)⟩
      ·have ej:j=i:=(by omega);subst ej;have A8:ag (AT wU ab j (jc (dD K) (dD K (f,af)) (cV K) a)):=(by rw [KE.o];exact AA.o.congr fun t ht=>acT ht);have QX:ag ((P++[(f,af)]).length=m+1):=(by show _=_;rw [Ψ,PM.o];rfl);go_wp2_with fail;go_roundg (N-(m+1))
       case measure=>omega
       case rel=>exact ⟨P++[(f,af)],_,m+1,b5,cB,by rw [<-QX.o],Yk _,ω,QX,MM,A8,RR,GR⟩
