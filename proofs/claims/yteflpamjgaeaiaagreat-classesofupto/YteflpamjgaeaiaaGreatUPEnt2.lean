/- Package merge: Entries, whole; Sift. -/
import Derived.Test.YteflpamjgaeaiaaGreatUGRef2
import Derived.Test.YteflpamjgaeaiaaGreatUPHE
set_option linter.unusedVariables false
set_option maxHeartbeats 4000000
set_option maxRecDepth 20000
open Go.Proofs.Tryz
namespace Go.Proofs.YteflpamjgaeaiaaGreat
open Go.RowKit
theorem keyOf_e:FnK encE Ent.k Ent.ok 103:=by
 refine ⟨fun args W=>rfl,fun W x _=>?_⟩
 obtain ⟨xk,xv,xg⟩:=x;simp only [encE];go_enter func103,ntmps103;go_wp2_with fail;go_ret;exact ⟨rfl,(Gw.refl W).alloc _ _⟩
structure TlF (w:World) (L:List (Lst Ent)) (hb bx:Nat) (told:List Ent) (Lc:List (Lst Ent)) (hv pv:Value) (H P:List (Hd Ent)) (va:Value) (wr:World):Prop where
 tl:Tl 234 237 ElE Ent.ok Ent.k L hb 103 told Lc hv pv H P wr
 al:Alv wr bx hb va told
 ap:∀ q,hpS hb hv pv q->va.ownBlock≠some q
 nb:∀ s∈Lc,s.l≠[]->s.b≠bx
 gx:Gx (fun q=>q=bx) w wr
 bl:bx<hb/\hb=w.heap.size/\hb<wr.heap.size
theorem TlF.next {w:World} {L:List (Lst Ent)} {hb bx:Nat} {told:List Ent} {Lc:List (Lst Ent)} {hv pv:Value} {H P:List (Hd Ent)} {va:Value} {wr w':World} {zero:Value} {e:Ending} (h:TlF w L hb bx told Lc hv pv H P va wr) (ne:H≠[]) (r:NextR 234 237 wr hb 103 3 hv pv H Ent.k encE zero e w') :
  ∃ x Lc' hv' pv' H' P',e=.returned (.tuple #[encE x,.bool true])/\sizes (Lc'.map Lst.l)<sizes (Lc.map Lst.l)/\w.heap.size<=w'.heap.size/\Alv w' bx hb va told/\told.length<sizes (L.map Lst.l)/\∀ w4 w5 va',Gw w' w4->Alv w5 bx hb va' (told++[x])->(∀ q,va'.ownBlock=some q->va.ownBlock=some q\/w4.heap.size<=q)->Gx (fun q=>q=bx\/va.ownBlock=some q) w4 w5->TlF w L hb bx (told++[x]) Lc' hv' pv' H' P' va' w5:=by
 obtain ⟨x,Lc',hv',pv',H',P',r1,r2,r3,r4,r5,r6,r7⟩:=h.tl.next elpE h.bl.2.2 ne r;have hbl:=h.bl;have s1:=r5.size;have nbx:¬ hpS hb hv pv bx:=fun e=>by have:=(h.tl.st.lt e).1;omega
 have al':Alv w' bx hb va told:=⟨(r5.block bx (blkl h.al.blk) nbx).trans h.al.blk,eo_keep h.al.row fun q hq=>r5.block q (World.ownsRow.lt h.al.row q hq).2 (fun e=>h.ap q e hq),h.al.ne⟩
 have tn:=r3.tn;have g0:Gx (fun q=>q=bx) w w':=h.gx.trans r5 (fun q hq=>.inr (by have:=(h.tl.st.lt hq).1;omega))
 have nb':∀ s∈Lc',s.l≠[]->s.b≠bx:=fun s hs ns=>by
  obtain ⟨s0,q1,q2,q3⟩:=r7 s hs ns;rw [q3];exact h.nb s0 q1 q2
 have ap':∀ q,hpS hb hv' pv' q->va.ownBlock≠some q:=fun q hq e=>by
  rcases r4 q hq with y | y
  ·exact h.ap q y e
  ·have:=(World.ownsRow.lt h.al.row q e).2;omega
 refine ⟨x,Lc',hv',pv',H',P',r1,r6,Nat.le_trans h.gx.size s1,al',by rw [List.length_append] at tn;simp at tn;omega,fun w4 w5 va' g4 a5 o5 g5=>⟨?_,a5,fun q hq e=>?_,nb',?_,⟨hbl.1,hbl.2.1,by have:=g4.size;have:=g5.size;omega⟩⟩⟩
 ·refine r3.keep elpE (fun q hq=>?_) (fun s hs ns=>?_)
  ·have ql:=(r3.st.lt hq)
   exact (g5.block q (by have:=g4.size;omega) (fun e=>by
    rcases e with e | e
    ·omega
    ·exact ap' q hq e)).trans (g4.below.block q ql.2)
  ·have sb:=(r3.mem s hs ns).1
   exact (g5.block _ (by have:=g4.size;omega) (fun e=>by
    rcases e with e | e
    ·exact nb' s hs ns e
    ·have:=(World.ownsRow.lt h.al.row _ e).1;omega)).trans (g4.below.block _ (by omega))
 ·rcases o5 q e with y | y
  ·exact ap' q hq y
  ·have:=(r3.st.lt hq).2;have:=g4.size;omega
 ·refine (g0.tw g4).trans g5 (fun q hq=>?_)
  rcases hq with e | e
  ·exact .inl e
  ·exact .inr (by have:=(World.ownsRow.lt h.al.row q e).1;omega)
theorem tellF (L:List (Lst Ent)) (ao:Option Addr) (c bx:Nat) (hL:L.length<=2000000) (hS:sizes (L.map Lst.l)<=2000000) (w:World) (hv:LV w ao L) (hok:∀ s∈L,LOk Ent.ok w.heap.size s) (hel:∀ s∈L,s.l≠[]->ElE w s) (nb:∀ s∈L,s.l≠[]->s.b≠bx) (hbx:w.heap[bx]?=some (.cells #[.slice none 0 0] 35 (0,0))) :
  Calls prog 102 #[.func (.func 103) #[] #[],.slice ao L.length c,.func (.func 104) #[] #[.pointer (some ⟨bx,0,none⟩)]] w fun e w'=>e=.returned (.tuple #[])/\(∃ va o,Mg Ent.k (L.map Lst.l) o/\Alv w' bx w.heap.size va o)/\Gx (fun q=>q=bx) w w':=by
 obtain ⟨n,hn⟩:∃ n,L.length=n:=⟨_,rfl⟩;have HO:=heapOf_e 103 Ent.k keyOf_e L ao c (by omega) w hv hok hel
 rw [hn] at HO ⊢;have HOF:Hid _:=HO;have LN:Aside _:=hn;have BXL:Aside _:=blkl hbx;have BX0:Aside _:=hbx;have NB:Aside _:=nb;have ST:Hid (∀ W hv H,Tl 234 237 ElE Ent.ok Ent.k L w.heap.size 103 [] L hv (.slice none 0 0) H [] W->Gw w W->TlF w L w.heap.size bx [] L hv (.slice none 0 0) H [] (.slice none 0 0) W):=fun W hv H t g=>⟨t,⟨(g.below.block _ BXL.out).trans BX0.out,World.ownsRow_nil _ _ _ _,(fun q e=>by cases e)⟩,(fun q _ e=>by cases e),NB.out,g.gx _,⟨BXL.out,rfl,blkl t.st.hp.blk⟩⟩
 obtain ⟨hb,hhb⟩:∃ hb,w.heap.size=hb:=⟨_,rfl⟩;have HBE:Aside _:=hhb;rw [hhb] at HOF ST;have NX:Hid (∀ told Lc hv pv H P va wr,TlF w L hb bx told Lc hv pv H P va wr->Calls prog 143 #[.pointer (some ⟨hb,0,none⟩)] wr fun e w'=>NextR 234 237 wr hb 103 3 hv pv H Ent.k encE (.agg #[.int .u64 0,.int .u64 0,.bool false]) e w'):=fun told Lc hv pv H P va wr h=>next_e hb _ hv pv H P Ent.k keyOf_e (by have:=h.tl.few;omega) (by have:=h.tl.pl;omega) wr h.tl.st h.tl.ho (h.tl.me (by omega))
 have E1:Hid (∀ va o x W,hb<=W.heap.size->o.length<=3000000->Alv W bx hb va o->Calls prog 104 #[encE x,.pointer (some ⟨bx,0,none⟩)] W fun e w'=>e=.returned (.bool true)/\(∃ va',Alv w' bx hb va' (o++[x])/\(∀ q,va'.ownBlock=some q->va.ownBlock=some q\/W.heap.size<=q))/\Gx (fun q=>q=bx\/va.ownBlock=some q) W w'):=fun va o x W h1 h2 h3=>ent1 bx hb va o x W h1 h2 h3
 obtain ⟨sz,hsz⟩:∃ sz,sizes (L.map Lst.l)=sz:=⟨_,rfl⟩;have SZ:Aside _:=hsz;rw [hsz] at hS;clear HO hv hok hel hn nb hbx hhb hsz;go_enter func102,ntmps102;go_wp2_with fail;refine Calls.mono HOF.out ?_;rintro e w1 ⟨rfl,⟨hv,H,t1⟩,g1⟩;have T1:Aside _:=ST.out w1 hv H t1 g1;clear t1 g1 HOF ST;go_wp2_with fail;go_loopg [] (sz+1) (fun gg wr=>∃ (told:List Ent) (Lc:List (Lst Ent)) (hv pv:Value) (H P:List (Hd Ent)) (va:Value) (m:Nat),m<gg/\Aside (sizes (Lc.map Lst.l)=m)/\Aside (TlF w L hb bx told Lc hv pv H P va wr))
 case atStart=>exact ⟨[],L,hv,_,H,[],_,sz,by omega,SZ,T1⟩
 case round =>
  clear T1;obtain ⟨told,Lc,hv,pv,H,P,va,m,mg,MS,TT⟩:=hrel;obtain ⟨wS,hwS⟩:∃ wx,wx=wr:=⟨_,rfl⟩;subst hwS;have NXX:Hid _:=NX.out _ _ _ _ _ _ _ _ TT.out;by_cases hE:H=[]
  ·have NX2:Hid (Calls prog 143 #[.pointer (some ⟨hb,0,none⟩)] wS fun e w'=>e=.returned (.tuple #[.agg #[.int .u64 0,.int .u64 0,.bool false],.bool false])/\Gw wS w'):=Calls.mono NXX.out fun e w' r=>r.1 hE
   have OV:Aside _:=TT.out.tl.over hE;clear hE NX NXX E1;go_wp2_with fail;refine Calls.mono NX2.out ?_;rintro e w2 ⟨rfl,g2⟩;have G2:Aside (Gw wS (w2.alloc (.cells #[.int .u64 0,.int .u64 0,.bool false] 40))):=g2.alloc _ _;clear g2 NX2;go_wp2_with fail;refine bodyPost_ret (results_none rfl _ _ _) rfl ?_;exact ⟨rfl,⟨va,told,OV.out,by
    have a:=TT.out.al;rw [HBE.out];exact ⟨(G2.out.below.block _ (blkl a.blk)).trans a.blk,eo_gw a.row G2.out,a.ne⟩⟩,TT.out.gx.tw G2.out⟩
  ·have NX2:Hid _:=Calls.mono NXX.out fun e w' r=>TT.out.next hE r
   clear hE NX NXX;go_wp2_with fail;refine Calls.mono NX2.out ?_;rintro e w2 ⟨x,Lc',hv',pv',H',P',rfl,slt,sgr,al2,tlt,STP⟩;have SLT:Aside (sizes (Lc'.map Lst.l)<m):=by rw [<-MS.out];exact slt
   have SGR:Aside (hb<=w2.heap.size):=by rw [<-HBE.out];exact sgr
   have AL2:Aside _:=al2;have TLT:Aside (told.length<=3000000):=by rw [SZ.out] at tlt;show _<=_;omega
   have STH:Hid _:=STP;clear slt sgr al2 tlt STP NX2;have EX:=fun W=>E1.out va told x W
   obtain ⟨xk,xv,xg⟩:=x;simp only [encE] at EX;obtain ⟨W3,E3⟩:∃ W3,w2.alloc (.cells #[.int .u64 xk,.int .u64 xv,.bool xg] 40)=W3:=⟨_,rfl⟩;have G3:Aside (Gw w2 W3):=by rw [<-E3];exact (Gw.refl w2).alloc _ _
   have b3:W3.heap[w2.heap.size]?=some (.cells #[.int .u64 xk,.int .u64 xv,.bool xg] 40 (0,0)):=by rw [<-E3];exact heap_alloc_new w2 _
   have d0:=blkc (o:=0) b3 rfl;have d1:=blkc (o:=1) b3 rfl;have d2:=blkc (o:=2) b3 rfl;have l3:w2.heap.size<W3.heap.size:=blkl b3;have EXX:Hid _:=EX W3 (Nat.le_trans SGR.out G3.out.size) TLT.out ⟨(G3.out.below.block _ (blkl AL2.out.blk)).trans AL2.out.blk,eo_gw AL2.out.row G3.out,AL2.out.ne⟩;clear EX E1 b3;simp only [encE];go_wp2_with fail;refine Calls.mono EXX.out ?_;rintro e w5 ⟨rfl,⟨va',a5,o5⟩,g5⟩;have T5:Aside _:=STH.out W3 w5 va' G3.out a5 o5 g5;clear a5 o5 g5 STH EXX;obtain ⟨m',hm'⟩:∃ m',sizes (Lc'.map Lst.l)=m':=⟨_,rfl⟩;have MS':Aside _:=hm';have ml:m'<m:=by rw [<-hm'];exact SLT.out
   clear hm';go_wp2_with fail;go_roundg (m'+1)
   case measure=>omega
   case rel=>exact ⟨_,Lc',hv',pv',H',P',va',m',by omega,MS',T5⟩
theorem lists_ex {α:Type} {Q:Nat->Lst α->Prop}:∀ n:Nat,(∀ i,i<n->∃ s,Q i s)->∃ L:List (Lst α),L.length=n/\∀ i (h:i<L.length),Q i L[i]
 | 0,_=>⟨[],rfl,fun i h=>by simp at h⟩
 | n+1,h=>by
  obtain ⟨L,h1,h2⟩:=lists_ex n (fun i hi=>h i (by omega))
  obtain ⟨s,hs⟩:=h n (by omega)
  refine ⟨L++[s],by simp [h1],fun i hi=>?_⟩
  by_cases q:i<L.length
  ·rw [List.getElem_append_left q];exact h2 i q
  ·have e:i=L.length:=by simp at hi;omega
   subst e;rw [List.getElem_append_right (Nat.le_refl _)];simpa [h1] using hs
theorem ev_lists {w:World} {ao:Option Addr} {L:List (List Ent)} (h:EV w ao L) (hl:∀ i,i<L.length->(L.getD i []).length<=2000000):∃ L':List (Lst Ent),L'.map Lst.l=L/\LV w ao L'/\(∀ s∈L',LOk Ent.ok w.heap.size s)/\(∀ s∈L',s.l≠[]->ElE w s):=by
 rcases Nat.eq_zero_or_pos L.length with z | z
 ·have:L=[]:=List.length_eq_zero_iff.1 z
  subst this;exact ⟨[],rfl,⟨fun h=>by simp at h⟩,fun s hs=>by simp at hs,fun s hs=>by simp at hs⟩
 ·obtain ⟨b,off,e,hb,hc⟩:=h.cells z
  obtain ⟨L',h1,h2⟩:=lists_ex (Q:=fun i (s:Lst Ent)=>s.l=L.getD i []/\(∃ bo c,w.cell? ⟨b,off+i,none⟩=some (.slice bo s.l.length c)/\(0<s.l.length->bo=some ⟨s.b,s.off,none⟩/\c=s.c))/\LOk Ent.ok w.heap.size s/\(s.l≠[]->ElE w s)) L.length (fun i hi=>by
   obtain ⟨bo,c,c1,c2,c3,c4⟩:=hc i hi;rcases Nat.eq_zero_or_pos (L.getD i []).length with y | y
   ·refine ⟨⟨0,0,0,L.getD i []⟩,rfl,⟨bo,c,c1,fun x=>by dsimp only at x;omega⟩,fun ne=>?_,fun ne=>?_⟩
    ·exact absurd (List.length_eq_zero_iff.1 y) ne
    ·exact absurd (List.length_eq_zero_iff.1 y) ne
   ·obtain ⟨eb,eo,rfl,el,ec⟩:=c3.cells y
    refine ⟨⟨eb,eo,c,L.getD i []⟩,rfl,⟨_,c,c1,fun _=>⟨rfl,rfl⟩⟩,fun _=>⟨el,c2,by have:=hl i hi;show (L.getD i []).length<=_;omega,c3.all⟩,fun _ k x hx=>?_⟩
    have kl:k<(L.getD i []).length:=(List.getElem?_eq_some_iff.1 hx).1;have:=ec k kl;have e2:(L.getD i []).getD k ent0=x:=by rw [List.getD_eq_getElem?_getD];show ((L.getD i [])[k]?).getD ent0=x;rw [show (L.getD i [])[k]?=some x from hx];rfl
    rw [e2] at this;exact this)
  refine ⟨L',?_,⟨fun _=>⟨b,off,e,hb,fun i hi=>(h2 i hi).2.1⟩⟩,fun s hs=>?_,fun s hs=>?_⟩
  ·refine List.ext_getElem (by simp [h1]) fun i hi1 hi2=>?_
   rw [List.getElem_map];rw [(h2 i (by simpa using hi1)).1]
   simp [List.getD,hi2]
  ·obtain ⟨i,hi,rfl⟩:=List.mem_iff_getElem.1 hs
   exact (h2 i hi).2.2.1
  ·obtain ⟨i,hi,rfl⟩:=List.mem_iff_getElem.1 hs
   exact (h2 i hi).2.2.2
theorem entries13 (ao:Option Addr) (c:Nat) (L:List (List Ent)) (hL:L.length<=2000000) (hl:∀ i,i<L.length->(L.getD i []).length<=2000000) (hS:sizes L<=2000000) (w:World) (h:EV w ao L) :
  Calls prog 49 #[.slice ao L.length c] w fun e w'=>(∃ bo oc o,e=.returned (.slice bo o.length oc)/\EO w' w.heap.size (.slice bo o.length oc) o/\Mg Ent.k L o)/\Gw w w':=by
 obtain ⟨L',rfl,l1,l2,l3⟩:=ev_lists h hl;rw [List.length_map] at hL ⊢;obtain ⟨W1,E1⟩:∃ W1,w.alloc (.cells #[.slice none 0 0] 35)=W1:=⟨_,rfl⟩;have G1:Gw w W1:=by rw [<-E1];exact (Gw.refl w).alloc _ _
 have B1:W1.heap[w.heap.size]?=some (.cells #[.slice none 0 0] 35 (0,0)):=by rw [<-E1];exact heap_alloc_new w _
 have s1:W1.heap.size=w.heap.size+1:=by rw [<-E1];simp
 have TF:Hid _:=tellF L' ao c w.heap.size hL hS W1 (l1.gw G1) (fun s hs ne=>by obtain ⟨q1,q2⟩:=l2 s hs ne;exact ⟨by omega,q2⟩) (fun s hs ne=>(l3 s hs ne).keep (G1.below.block _ (l2 s hs ne).1)) (fun s hs ne=>by have:=(l2 s hs ne).1;omega) B1
 have FIN:Hid (∀ (w2:World) (va:Value) (o:List Ent),Mg Ent.k (L'.map Lst.l) o->Alv w2 w.heap.size W1.heap.size va o->Gx (fun q=>q=w.heap.size) W1 w2->∃ bo oc,va=.slice bo o.length oc/\w2.cell? ⟨w.heap.size,0,none⟩=some (.slice bo o.length oc)/\(∃ bo' oc' o',Ending.returned (.slice bo o.length oc)=.returned (.slice bo' o'.length oc')/\EO w2 w.heap.size (.slice bo' o'.length oc') o'/\Mg Ent.k (L'.map Lst.l) o')/\Gw w w2):=fun w2 va o m a g=>by
  have gg:Gw w w2:=Gx.gw G1 g (fun q hq=>Nat.le_of_eq hq.symm)
  have ob:=eo_base a.row (show w.heap.size<=W1.heap.size by omega)
  rcases a.row.2 with ⟨e,z⟩ | ⟨bb,cap,cur,e,_⟩
  ·subst e
   refine ⟨none,0,by rw [z],by rw [z];exact blkc a.blk rfl,⟨none,0,o,rfl,by rw [z];exact ob,m⟩,gg⟩
  ·subst e
   exact ⟨_,cap,rfl,blkc a.blk rfl,⟨_,cap,o,rfl,ob,m⟩,gg⟩
 clear l1 l2 l3 h B1 G1;obtain ⟨n,hn⟩:∃ n,L'.length=n:=⟨_,rfl⟩;rw [hn] at TF ⊢;clear hn;go_enter func49,ntmps49;go_wp2_with fail;refine Calls.mono TF.out ?_;rintro e w2 ⟨rfl,⟨va,o,m,a⟩,g⟩;obtain ⟨bo,oc,hva,hc,ff,gg⟩:=FIN.out w2 va o m a g;have FF:Aside _:=And.intro ff gg;obtain ⟨on,hon⟩:∃ n,o.length=n:=⟨_,rfl⟩;rw [hon] at hc FF;clear ff gg m a g hva TF FIN hon;go_wp2_with fail;go_ret;exact FF.out
end Go.Proofs.YteflpamjgaeaiaaGreat
