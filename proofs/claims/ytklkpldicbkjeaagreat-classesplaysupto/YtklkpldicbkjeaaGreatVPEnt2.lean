/- Package merge: Entries, whole; Sift. -/
import Derived.Test.YtklkpldicbkjeaaGreatVGRef2
import Derived.Test.YtklkpldicbkjeaaGreatVPHE
set_option linter.unusedVariables false
set_option maxHeartbeats 4000000
set_option maxRecDepth 20000
open Go.Proofs.Tryz
namespace Go.Proofs.YtklkpldicbkjeaaGreat
open Go.RowKit
theorem Qh:zP fU ah.k ah.ok 66:=by
 refine ⟨fun args W=>rfl,fun W x _=>?_⟩
 obtain ⟨xk,xv,xg⟩:=x;simp only [fU];go_enter func66,ntmps66;go_wp2_with fail;go_ret;exact ⟨rfl,(Gw.refl W).alloc _ _⟩
structure tX (w:World) (L:List (aB ah)) (hb bx:Nat) (told:List ah) (Lc:List (aB ah)) (hv pv:Value) (H P:List (Hd ah)) (va:Value) (wr:World):Prop where
 tl:Tl 173 176 fV ah.ok ah.k L hb 66 told Lc hv pv H P wr
 al:lM wr bx hb va told
 ap:∀ q,fX hb hv pv q->va.ownBlock≠some q
 nb:∀ s∈Lc,s.l≠[]->s.b≠bx
 gx:Gx (fun q=>q=bx) w wr
 bl:bx<hb/\hb=w.heap.size/\hb<wr.heap.size
theorem tX.next {w:World} {L:List (aB ah)} {hb bx:Nat} {told:List ah} {Lc:List (aB ah)} {hv pv:Value} {H P:List (Hd ah)} {va:Value} {wr w':World} {zero:Value} {e:Ending} (h:tX w L hb bx told Lc hv pv H P va wr) (ne:H≠[]) (r:wG 173 176 wr hb 66 3 hv pv H ah.k fU zero e w') :
  ∃ x jT aO ji H' P',e=.returned (.tuple #[fU x,.bool true])/\aN (jT.map aB.l)<aN (Lc.map aB.l)/\w.heap.size<=w'.heap.size/\lM w' bx hb va told/\told.length<aN (L.map aB.l)/\∀ w4 w5 iu,Gw w' w4->lM w5 bx hb iu (told++[x])->(∀ q,iu.ownBlock=some q->va.ownBlock=some q\/w4.heap.size<=q)->Gx (fun q=>q=bx\/va.ownBlock=some q) w4 w5->tX w L hb bx (told++[x]) jT aO ji H' P' iu w5:=by
 obtain ⟨x,jT,aO,ji,H',P',r1,r2,r3,r4,r5,r6,r7⟩:=h.tl.next elpE h.bl.2.2 ne r;have aX:=h.bl;have s1:=r5.size;have nbx:¬ fX hb hv pv bx:=fun e=>by have:=(h.tl.st.lt e).1;omega
 have vM:lM w' bx hb va told:=⟨(r5.block bx (aE h.al.blk) nbx).trans h.al.blk,DK h.al.row fun q hq=>r5.block q (World.ownsRow.lt h.al.row q hq).2 (fun e=>h.ap q e hq),h.al.ne⟩
 have tn:=r3.tn;have g0:Gx (fun q=>q=bx) w w':=h.gx.trans r5 (fun q hq=>.inr (by have:=(h.tl.st.lt hq).1;omega))
 have iS:∀ s∈jT,s.l≠[]->s.b≠bx:=fun s hs ns=>by
  obtain ⟨s0,q1,q2,q3⟩:=r7 s hs ns;rw [q3];exact h.nb s0 q1 q2
 have Qi:∀ q,fX hb aO ji q->va.ownBlock≠some q:=fun q hq e=>by
  rcases r4 q hq with y | y
  ·exact h.ap q y e
  ·have:=(World.ownsRow.lt h.al.row q e).2;omega
 refine ⟨x,jT,aO,ji,H',P',r1,r6,Nat.le_trans h.gx.size s1,vM,by rw [List.length_append] at tn;simp at tn;omega,fun w4 w5 iu g4 a5 o5 g5=>⟨?_,a5,fun q hq e=>?_,iS,?_,⟨aX.1,aX.2.1,by have:=g4.size;have:=g5.size;omega⟩⟩⟩
 ·refine r3.keep elpE (fun q hq=>?_) (fun s hs ns=>?_)
  ·have ql:=(r3.st.lt hq)
   exact (g5.block q (by have:=g4.size;omega) (fun e=>by
    rcases e with e | e
    ·omega
    ·exact Qi q hq e)).trans (g4.below.block q ql.2)
  ·have sb:=(r3.mem s hs ns).1
   exact (g5.block _ (by have:=g4.size;omega) (fun e=>by
    rcases e with e | e
    ·exact iS s hs ns e
    ·have:=(World.ownsRow.lt h.al.row _ e).1;omega)).trans (g4.below.block _ (by omega))
 ·rcases o5 q e with y | y
  ·exact Qi q hq y
  ·have:=(r3.st.lt hq).2;have:=g4.size;omega
 ·refine (g0.tw g4).trans g5 (fun q hq=>?_)
  rcases hq with e | e
  ·exact .inl e
  ·exact .inr (by have:=(World.ownsRow.lt h.al.row q e).1;omega)
theorem abP (L:List (aB ah)) (ao:Option Addr) (c bx:Nat) (hL:L.length<=2000000) (hS:aN (L.map aB.l)<=2000000) (w:World) (hv:LV w ao L) (eI:∀ s∈L,pE ah.ok w.heap.size s) (lL:∀ s∈L,s.l≠[]->fV w s) (nb:∀ s∈L,s.l≠[]->s.b≠bx) (eV:w.heap[bx]?=some (.cells #[.slice none 0 0] 35 (0,0))) :
  Calls prog 65 #[.func (.func 66) #[] #[],.slice ao L.length c,.func (.func 67) #[] #[.pointer (some ⟨bx,0,none⟩)]] w fun e w'=>e=.returned (.tuple #[])/\(∃ va o,Mg ah.k (L.map aB.l) o/\lM w' bx w.heap.size va o)/\Gx (fun q=>q=bx) w w':=by
 obtain ⟨n,hn⟩:∃ n,L.length=n:=⟨_,rfl⟩;have HO:=abN 66 ah.k Qh L ao c (by omega) w hv eI lL
 rw [hn] at HO ⊢;have Fh:ag _:=HO;have LN:ag _:=hn;have Qj:ag _:=aE eV;have BX0:ag _:=eV;have NB:ag _:=nb;have ST:ag (∀ W hv H,Tl 173 176 fV ah.ok ah.k L w.heap.size 66 [] L hv (.slice none 0 0) H [] W->Gw w W->tX w L w.heap.size bx [] L hv (.slice none 0 0) H [] (.slice none 0 0) W):=fun W hv H t g=>⟨t,⟨(g.below.block _ Qj.o).trans BX0.o,World.ownsRow_nil _ _ _ _,(fun q e=>by cases e)⟩,(fun q _ e=>by cases e),NB.o,g.gx _,⟨Qj.o,rfl,aE t.st.hp.blk⟩⟩
 obtain ⟨hb,rE⟩:∃ hb,w.heap.size=hb:=⟨_,rfl⟩;have rF:ag _:=rE;rw [rE] at Fh ST;have NX:ag (∀ told Lc hv pv H P va wr,tX w L hb bx told Lc hv pv H P va wr->Calls prog 91 #[.pointer (some ⟨hb,0,none⟩)] wr fun e w'=>wG 173 176 wr hb 66 3 hv pv H ah.k fU (.agg #[.int .u64 0,.int .u64 0,.bool false]) e w'):=fun told Lc hv pv H P va wr h=>abM hb _ hv pv H P ah.k Qh (by have:=h.tl.few;omega) (by have:=h.tl.pl;omega) wr h.tl.st h.tl.ho (h.tl.me (by omega))
 have E1:ag (∀ va o x W,hb<=W.heap.size->o.length<=3000000->lM W bx hb va o->Calls prog 67 #[fU x,.pointer (some ⟨bx,0,none⟩)] W fun e w'=>e=.returned (.bool true)/\(∃ iu,lM w' bx hb iu (o++[x])/\(∀ q,iu.ownBlock=some q->va.ownBlock=some q\/W.heap.size<=q))/\Gx (fun q=>q=bx\/va.ownBlock=some q) W w'):=fun va o x W h1 h2 h3=>abO bx hb va o x W h1 h2 h3
 obtain ⟨sz,bZ⟩:∃ sz,aN (L.map aB.l)=sz:=⟨_,rfl⟩;have SZ:ag _:=bZ;rw [bZ] at hS;clear HO hv eI lL hn nb eV rE bZ;go_enter func65,ntmps65;go_wp2_with fail;refine Calls.mono Fh.o ?_;rintro e w1 ⟨rfl,⟨hv,H,t1⟩,g1⟩;have T1:ag _:=ST.o w1 hv H t1 g1;clear t1 g1 Fh ST;go_wp2_with fail;go_loopg [] (sz+1) (fun gg wr=>∃ (told:List ah) (Lc:List (aB ah)) (hv pv:Value) (H P:List (Hd ah)) (va:Value) (m:Nat),m<gg/\ag (aN (Lc.map aB.l)=m)/\ag (tX w L hb bx told Lc hv pv H P va wr))
 case atStart=>exact ⟨[],L,hv,_,H,[],_,sz,by omega,SZ,T1⟩
 case round =>
  clear T1;obtain ⟨told,Lc,hv,pv,H,P,va,m,mg,MS,TT⟩:=hrel;obtain ⟨wS,aZ⟩:∃ wx,wx=wr:=⟨_,rfl⟩;subst aZ;have Ae:ag _:=NX.o _ _ _ _ _ _ _ _ TT.o;by_cases hE:H=[]
  ·have wQ:ag (Calls prog 91 #[.pointer (some ⟨hb,0,none⟩)] wS fun e w'=>e=.returned (.tuple #[.agg #[.int .u64 0,.int .u64 0,.bool false],.bool false])/\Gw wS w'):=Calls.mono Ae.o fun e w' r=>r.1 hE
   have OV:ag _:=TT.o.tl.over hE;clear hE NX Ae E1;go_wp2_with fail;refine Calls.mono wQ.o ?_;rintro e w2 ⟨rfl,g2⟩;have G2:ag (Gw wS (w2.alloc (.cells #[.int .u64 0,.int .u64 0,.bool false] 40))):=g2.alloc _ _;clear g2 wQ;go_wp2_with fail;refine bodyPost_ret (results_none rfl _ _ _) rfl ?_;exact ⟨rfl,⟨va,told,OV.o,by
    have a:=TT.o.al;rw [rF.o];exact ⟨(G2.o.below.block _ (aE a.blk)).trans a.blk,vI a.row G2.o,a.ne⟩⟩,TT.o.gx.tw G2.o⟩
  ·have wQ:ag _:=Calls.mono Ae.o fun e w' r=>TT.o.next hE r
   clear hE NX Ae;go_wp2_with fail;refine Calls.mono wQ.o ?_;rintro e w2 ⟨x,jT,aO,ji,H',P',rfl,slt,Qk,Ql,Qm,Qn⟩;have SLT:ag (aN (jT.map aB.l)<m):=by rw [<-MS.o];exact slt
   have SGR:ag (hb<=w2.heap.size):=by rw [<-rF.o];exact Qk
   have Af:ag _:=Ql;have TLT:ag (told.length<=3000000):=by rw [SZ.o] at Qm;show _<=_;omega
   have Qo:ag _:=Qn;clear slt Qk Ql Qm Qn wQ;have EX:=fun W=>E1.o va told x W
   obtain ⟨xk,xv,xg⟩:=x;simp only [fU] at EX;obtain ⟨W3,E3⟩:∃ W3,w2.alloc (.cells #[.int .u64 xk,.int .u64 xv,.bool xg] 40)=W3:=⟨_,rfl⟩;have G3:ag (Gw w2 W3):=by rw [<-E3];exact (Gw.refl w2).alloc _ _
   have b3:W3.heap[w2.heap.size]?=some (.cells #[.int .u64 xk,.int .u64 xv,.bool xg] 40 (0,0)):=by rw [<-E3];exact heap_alloc_new w2 _
   have d0:=aD (o:=0) b3 rfl;have d1:=aD (o:=1) b3 rfl;have d2:=aD (o:=2) b3 rfl;have l3:w2.heap.size<W3.heap.size:=aE b3;have Qp:ag _:=EX W3 (Nat.le_trans SGR.o G3.o.size) TLT.o ⟨(G3.o.below.block _ (aE Af.o.blk)).trans Af.o.blk,vI Af.o.row G3.o,Af.o.ne⟩;clear EX E1 b3;simp only [fU];go_wp2_with fail;refine Calls.mono Qp.o ?_;rintro e w5 ⟨rfl,⟨iu,a5,o5⟩,g5⟩;have T5:ag _:=Qo.o W3 w5 iu G3.o a5 o5 g5;clear a5 o5 g5 Qo Qp;obtain ⟨m',uP⟩:∃ m',aN (jT.map aB.l)=m':=⟨_,rfl⟩;have MS':ag _:=uP;have ml:m'<m:=by rw [<-uP];exact SLT.o
   clear uP;go_wp2_with fail;go_roundg (m'+1)
   case measure=>omega
   case rel=>exact ⟨_,jT,aO,ji,H',P',iu,m',by omega,MS',T5⟩
theorem Qq {α:Type} {Q:Nat->aB α->Prop}:∀ n:Nat,(∀ i,i<n->∃ s,Q i s)->∃ L:List (aB α),L.length=n/\∀ i (h:i<L.length),Q i L[i]
 | 0,_=>⟨[],rfl,fun i h=>by simp at h⟩
 | n+1,h=>by
  obtain ⟨L,h1,h2⟩:=Qq n (fun i hi=>h i (by omega))
  obtain ⟨s,hs⟩:=h n (by omega)
  refine ⟨L++[s],by simp [h1],fun i hi=>?_⟩
  by_cases q:i<L.length
  ·rw [List.getElem_append_left q];exact h2 i q
  ·have e:i=L.length:=by simp at hi;omega
   subst e;rw [List.getElem_append_right (Nat.le_refl _)];simpa [h1] using hs
theorem abQ {w:World} {ao:Option Addr} {L:List (List ah)} (h:EV w ao L) (hl:∀ i,i<L.length->(L.getD i []).length<=2000000):∃ L':List (aB ah),L'.map aB.l=L/\LV w ao L'/\(∀ s∈L',pE ah.ok w.heap.size s)/\(∀ s∈L',s.l≠[]->fV w s):=by
 rcases Nat.eq_zero_or_pos L.length with z | z
 ·have:L=[]:=List.length_eq_zero_iff.1 z
  subst this;exact ⟨[],rfl,⟨fun h=>by simp at h⟩,fun s hs=>by simp at hs,fun s hs=>by simp at hs⟩
 ·obtain ⟨b,off,e,hb,hc⟩:=h.cells z
  obtain ⟨L',h1,h2⟩:=Qq (Q:=fun i (s:aB ah)=>s.l=L.getD i []/\(∃ bo c,w.cell? ⟨b,off+i,none⟩=some (.slice bo s.l.length c)/\(0<s.l.length->bo=some ⟨s.b,s.off,none⟩/\c=s.c))/\pE ah.ok w.heap.size s/\(s.l≠[]->fV w s)) L.length (fun i hi=>by
   obtain ⟨bo,c,c1,c2,c3,c4⟩:=hc i hi;rcases Nat.eq_zero_or_pos (L.getD i []).length with y | y
   ·refine ⟨⟨0,0,0,L.getD i []⟩,rfl,⟨bo,c,c1,fun x=>by dsimp only at x;omega⟩,fun ne=>?_,fun ne=>?_⟩
    ·exact absurd (List.length_eq_zero_iff.1 y) ne
    ·exact absurd (List.length_eq_zero_iff.1 y) ne
   ·obtain ⟨eb,eo,rfl,el,ec⟩:=c3.cells y
    refine ⟨⟨eb,eo,c,L.getD i []⟩,rfl,⟨_,c,c1,fun _=>⟨rfl,rfl⟩⟩,fun _=>⟨el,c2,by have:=hl i hi;show (L.getD i []).length<=_;omega,c3.all⟩,fun _ k x hx=>?_⟩
    have kl:k<(L.getD i []).length:=(List.getElem?_eq_some_iff.1 hx).1;have:=ec k kl;have e2:(L.getD i []).getD k aF=x:=by rw [List.getD_eq_getElem?_getD];show ((L.getD i [])[k]?).getD aF=x;rw [show (L.getD i [])[k]?=some x from hx];rfl
    rw [e2] at this;exact this)
  refine ⟨L',?_,⟨fun _=>⟨b,off,e,hb,fun i hi=>(h2 i hi).2.1⟩⟩,fun s hs=>?_,fun s hs=>?_⟩
  ·refine List.ext_getElem (by simp [h1]) fun i wJ hi2=>?_
   rw [List.getElem_map];rw [(h2 i (by simpa using wJ)).1]
   simp [List.getD,hi2]
  ·obtain ⟨i,hi,rfl⟩:=List.mem_iff_getElem.1 hs
   exact (h2 i hi).2.2.1
  ·obtain ⟨i,hi,rfl⟩:=List.mem_iff_getElem.1 hs
   exact (h2 i hi).2.2.2
theorem abR (ao:Option Addr) (c:Nat) (L:List (List ah)) (hL:L.length<=2000000) (hl:∀ i,i<L.length->(L.getD i []).length<=2000000) (hS:aN L<=2000000) (w:World) (h:EV w ao L) :
  Calls prog 30 #[.slice ao L.length c] w fun e w'=>(∃ bo oc o,e=.returned (.slice bo o.length oc)/\EO w' w.heap.size (.slice bo o.length oc) o/\Mg ah.k L o)/\Gw w w':=by
 obtain ⟨L',rfl,l1,l2,l3⟩:=abQ h hl;rw [List.length_map] at hL ⊢;obtain ⟨W1,E1⟩:∃ W1,w.alloc (.cells #[.slice none 0 0] 35)=W1:=⟨_,rfl⟩;have G1:Gw w W1:=by rw [<-E1];exact (Gw.refl w).alloc _ _
 have B1:W1.heap[w.heap.size]?=some (.cells #[.slice none 0 0] 35 (0,0)):=by rw [<-E1];exact heap_alloc_new w _
 have s1:W1.heap.size=w.heap.size+1:=by rw [<-E1];simp
 have TF:ag _:=abP L' ao c w.heap.size hL hS W1 (l1.gw G1) (fun s hs ne=>by obtain ⟨q1,q2⟩:=l2 s hs ne;exact ⟨by omega,q2⟩) (fun s hs ne=>(l3 s hs ne).keep (G1.below.block _ (l2 s hs ne).1)) (fun s hs ne=>by have:=(l2 s hs ne).1;omega) B1
 have aJ:ag (∀ (w2:World) (va:Value) (o:List ah),Mg ah.k (L'.map aB.l) o->lM w2 w.heap.size W1.heap.size va o->Gx (fun q=>q=w.heap.size) W1 w2->∃ bo oc,va=.slice bo o.length oc/\w2.cell? ⟨w.heap.size,0,none⟩=some (.slice bo o.length oc)/\(∃ Ag Qr o',Ending.returned (.slice bo o.length oc)=.returned (.slice Ag o'.length Qr)/\EO w2 w.heap.size (.slice Ag o'.length Qr) o'/\Mg ah.k (L'.map aB.l) o')/\Gw w w2):=fun w2 va o m a g=>by
  have gg:Gw w w2:=Gx.gw G1 g (fun q hq=>Nat.le_of_eq hq.symm)
  have ob:=Nn a.row (show w.heap.size<=W1.heap.size by omega)
  rcases a.row.2 with ⟨e,z⟩ | ⟨bb,cap,cur,e,_⟩
  ·subst e
   refine ⟨none,0,by rw [z],by rw [z];exact aD a.blk rfl,⟨none,0,o,rfl,by rw [z];exact ob,m⟩,gg⟩
  ·subst e
   exact ⟨_,cap,rfl,aD a.blk rfl,⟨_,cap,o,rfl,ob,m⟩,gg⟩
 clear l1 l2 l3 h B1 G1;obtain ⟨n,hn⟩:∃ n,L'.length=n:=⟨_,rfl⟩;rw [hn] at TF ⊢;clear hn;go_enter func30,ntmps30;go_wp2_with fail;refine Calls.mono TF.o ?_;rintro e w2 ⟨rfl,⟨va,o,m,a⟩,g⟩;obtain ⟨bo,oc,hva,hc,ff,gg⟩:=aJ.o w2 va o m a g;have FF:ag _:=And.intro ff gg;obtain ⟨on,mO⟩:∃ n,o.length=n:=⟨_,rfl⟩;rw [mO] at hc FF;clear ff gg m a g hva TF aJ mO;go_wp2_with fail;go_ret;exact FF.o
end Go.Proofs.YtklkpldicbkjeaaGreat
