/- Buffers in memory: how many there may be, and a row of entries; a row of one's own copied one place further. -/
import Derived.Test.YtcboobmfnmgldaaGreatBGLaw
import Derived.Test.YtcboobmfnmgldaaGreatBPMem
set_option linter.unusedVariables false
set_option maxHeartbeats 4000000
set_option maxRecDepth 100000
open Go.Proofs.Tryz
namespace Go.Proofs.YtcboobmfnmgldaaGreat
open Go.RowKit
structure HB (t:TypeId) (w:World) (p:Nat) (S:Nat->Prop) (most:Int) (l:List ah):Prop where
 lies:∃ v,w.heap[p]?=some (.cells #[AI most,v] t (0,0))/\EO w 0 v l/\(∀ q,v.ownBlock=some q->q≠p)/\∀ q,S q↔q=p\/v.ownBlock=some q
 rise:aG ah.k l
 ok:∀ e∈l,e.ok
 room:(l.length:Int)<=most
section
variable {t:TypeId} {w w':World} {p:Nat} {S:Nat->Prop} {most:Int} {l:List ah}
theorem HB.lt (h:HB t w p S most l):∀ q,S q->q<w.heap.size:=by
 obtain ⟨v,h1,h2,h3,h4⟩:=h.lies;intro q hq;rcases (h4 q).1 hq with rfl | e
 ·exact aC h1
 ·exact (World.ownsRow.lt h2 q e).2
theorem HB.own (h:HB t w p S most l):S p:=by
 obtain ⟨v,h1,h2,h3,h4⟩:=h.lies;exact (h4 p).2 (.inl rfl)
theorem HB.keep (h:HB t w p S most l) (k:∀ q,S q->w'.heap[q]?=w.heap[q]?):HB t w' p S most l:=by
 obtain ⟨v,h1,h2,h3,h4⟩:=h.lies;exact ⟨⟨v,(k p h.own).trans h1,mL h2 (fun q hq=>k q ((h4 q).2 (.inr hq))),h3,h4⟩,h.rise,h.ok,h.room⟩
theorem HB.gw (h:HB t w p S most l) (g:Gw w w'):HB t w' p S most l:=h.keep fun q hq=>g.below.block q (h.lt q hq)
theorem HB.gx {T:Nat->Prop} (h:HB t w p S most l) (g:Gx T w w') (d:∀ q,S q->¬ T q):HB t w' p S most l:=h.keep fun q hq=>g.block q (h.lt q hq) (d q hq)
theorem HB.new (t:TypeId) (w:World) (most:Int) (h:0<=most):HB t (w.alloc (.cells #[AI most,.slice none 0 0] t)) w.heap.size (fun q=>q=w.heap.size) most [] :=
 ⟨⟨.slice none 0 0,heap_alloc_new w _,World.ownsRow_nil _ _ _ _,(fun q e=>by cases e),fun q=>⟨fun e=>.inl e,fun e=>e.elim id (fun x=>by cases x)⟩⟩,List.Pairwise.nil,(fun e he=>by cases he),by simpa using h⟩
end
variable {w:World} {l:List ah}
theorem pQ {base:Nat} {v:Value} (h:EO w base v l):∃ bo c,v=.slice bo l.length c/\l.length<=c/\(bo=none->l.length=0/\c=0):=by
 rcases h.2 with ⟨e,z⟩ | ⟨b,cap,cur,e,hb,hh,hc,_⟩
 ·exact ⟨none,0,by rw [e,z],by omega,fun _=>⟨z,rfl⟩⟩
 ·exact ⟨_,cap,e,hc,fun x=>by cases x⟩
def kK (most:Int) (l:List ah) (e:ah):Int×List ah:=if e.g=true/\e.v≠0 then (31,l) else if look ah.k e.k l=none/\(l.length:Int)=most then (140,l) else (0,ins ah.k e l)
def kL (t:TypeId) (w w':World) (p:Nat) (S:Nat->Prop) (most:Int) (l:List ah):Prop:=∃ S',HB t w' p S' most l/\Gx S w w'/\∀ q,S' q->S q\/w.heap.size<=q
variable {t:TypeId}
theorem kL.same {w':World} {p:Nat} {S:Nat->Prop} {most:Int} (h:HB t w p S most l) (g:Gw w w'):kL t w w' p S most l:=⟨S,h.gw g,g.gx S,fun q hq=>.inl hq⟩
def acm (e:ah):Value:=.agg #[By e.k,By e.v,.bool e.g]
def QZ (o:Option ah):Value:=.tuple #[acm (o.getD ax),.bool o.isSome]
theorem Gu:∀ (l:List ah) (k:Nat),(l.take k).flatMap aO=(l.flatMap aO).take (k*3)
 | [],k=>by simp
 | s::l,0=>by simp
 | s::l,k+1=>by
  rw [List.take_succ_cons,List.flatMap_cons,List.flatMap_cons,Gu l k,show (k+1)*3=(aO s).length+k*3 by show _=3+_;omega,List.take_length_add_append]
theorem Q5:∀ (l:List ah) (k:Nat),(l.drop k).flatMap aO=(l.flatMap aO).drop (k*3)
 | [],k=>by simp
 | s::l,0=>by simp
 | s::l,k+1=>by
  rw [List.drop_succ_cons,List.flatMap_cons,Q5 l k,show (k+1)*3=(aO s).length+k*3 by show _=3+_;omega,List.drop_length_add_append]
theorem acn (w:World) (ty:TypeId) (g o Gv aco:Nat) (a:Addr) (Gy acp:Nat) (cur:Array Value) (t:TypeId) (cs:List Value)
  (hg:w.heap[g]?=some (.cells cur t (0,0))) (hn:cs.length=Nat.min Gy Gv*3)
  (acq:∀ j v,cs[j]?=some v->w.cell? (a.add j)=some v) (acr:o+cs.length<=cur.size) (h1:∀ v∈cs,v.oneCell'=true) :
  (Builtin.copy_ #[24,24] ty #[.slice (some ⟨g,o,none⟩) Gv aco,.slice (some a) Gy acp]).run prog w =
   .ok (goInt (Nat.min Gy Gv)) (w.setRow g (cur.toList.take o++cs++cur.toList.drop (o+cs.length)).toArray):=by
 have hl:=run_loadCells_list (P:=prog) w a cs acq;have eB:=run_storeCells_at prog g o t cs 0 cur w hg (by simpa using acr) h1
 obtain ⟨i,hi,_,hs,_⟩:=info_parts nK;rw [hn] at hl;simp [Builtin.copy_,run_underlying underlying24,Builtin.lenOf,Builtin.firstCells,sizeOf,typeInfo,hi,hs,hl,eB]
def kM (L:List ah) (n k:Nat):List ah:=L.take (k+1)++(L.drop k).take (n-k)
theorem xA {L:List ah} {n k:Nat} (h:L.length=n+1) (hk:k<=n):(kM L n k).length=n+1:=by
 unfold kM;rw [List.length_append,List.length_take,List.length_take,List.length_drop];omega
theorem acs {e0 e:ah} {k:Nat} (hk:k<=l.length):(kM (l++[e0]) l.length k).set k e=l.take k++e::l.drop k:=by
 unfold kM;rw [List.set_append_left _ _ (by simp;omega)]
 have a:((l++[e0]).take (k+1)).set k e=l.take k++[e]:=by
  by_cases q:k<l.length
  ·rw [List.take_append_of_le_length (by omega),List.set_eq_take_append_cons_drop,if_pos (by simp;omega),List.take_take,Nat.min_eq_left (by omega),List.drop_eq_nil_of_le (by simp;omega)]
  ·have e:k=l.length:=by omega
   subst e;rw [List.take_of_length_le (by simp)]
   simp
 rw [a,List.append_assoc,List.singleton_append];congr 2;rw [List.drop_append_of_le_length hk,List.take_append_of_le_length (by simp)]
 rw [List.take_of_length_le (by simp)]
theorem Q6 {ops:Array Oper} {o:Oper} {a:Act} {w:World} {K:Act->World->Prop} {Q:Exit->Act->World->Prop} {E:Prop} (kT:o.guard=none) (d s:Operand)
  (ho:o.op=.call { callee:=.builtin .copy,args:=#[d,s],argTypes:=#[24,24] })
  (b cap n k:Nat) (L:List ah) (iM:EO w 0 (.slice (some ⟨b,0,none⟩) (n+1) cap) L) (hL:L.length=n+1) (hk:k<=n)
  (dp:Option Addr) (dL dC:Nat) (so sL sC:Nat) (hd:a.eval d=.slice dp dL dC) (hs:a.eval s=.slice (some ⟨b,so,none⟩) sL sC) (hdL:dL=n-k) (hsL:sL=n+1-k) (hso:so=k*3) (hdp:k<n->dp=some ⟨b,(k+1)*3,none⟩)
  (h:∀ w',EO w' 0 (.slice (some ⟨b,0,none⟩) (n+1) cap) (kM L n k)->Gx (fun q=>q=b) w w'->K (a.put o.dst (goInt (n-k:Nat))) w') :
  if Region.wanted o (yielded ops a.tmps)=true then Oper.wp prog o a w K Q else E:=by
 have hw:Region.wanted o (yielded ops a.tmps)=true:=by simp [Region.wanted,kT]
 rw [if_pos hw];subst hdL hsL hso;have Q9:Nat.min (n+1-k) (n-k)=n-k:=Nat.min_eq_right (by omega)
 rcases iM.2 with ⟨z,_⟩ | ⟨b',fJ,cur,e,hb,hh,hc,hm,hz,ht⟩
 ·cases z
 injection e with e1 e2 e3;injection e1 with e1;injection e1 with e1;subst e1 e3;rw [hL] at hc ht;have acu:w.ownsRow 0 75 3 (.slice (some ⟨b,0,none⟩) (n+1) cap) (n+1) (L.flatMap aO):=by
  have:=iM
  unfold EO at this;rw [hL] at this;exact this
 by_cases kn:k<n
 ·have:=hdp kn
  subst this;have cl:((L.drop k).take (n-k)).length=n-k:=by simp;omega
  have fl:=EU ((L.drop k).take (n-k));rw [cl] at fl;have oG:=acn w o.type b ((k+1)*3) (n-k) dC ⟨b,k*3,none⟩ (n+1-k) sC cur _ (((L.drop k).take (n-k)).flatMap aO) hh (by rw [fl,Q9]) (fun j v hj=>by
    have kW:j<(n-k)*3:=by
     have:=(List.getElem?_eq_some_iff.1 hj).1
     rwa [fl] at this
    rw [Gu,Q5,List.getElem?_take_of_lt kW,List.getElem?_drop] at hj;have:=World.ownsRow.cellAt acu (k*3+j) (by omega)
    rw [Addr.add_lit];exact this.trans hj) (by rw [fl,hz];have:n+1<=cap:=hc;omega) (aa5 _)
  rw [Q9] at oG;unfold Oper.wp;simp only [execOp,ho,resolve,invoke,builtin,Sem.run_bind,Sem.run_pure,Result.andThen_ok,List.map_toArray,List.map_cons,List.map_nil,hd,hs,oG];refine h _ ⟨?_,.inr ⟨b,cap,_,?_,hb,setRow_heap w b cur _ _ _ hh,?_,hm,?_,?_⟩⟩ ⟨rfl,rfl,rfl,by simp [World.setRow],fun q hq hn=>setRow_other w b q _ hn⟩
  ·rw [EU]
  ·rw [xA hL hk]
  ·rw [xA hL hk];exact hc
  ·have:n+1<=cap:=hc
   rw [List.size_toArray,List.length_append,List.length_append,fl,List.length_take,List.length_drop,Array.length_toList,hz];omega
  ·rw [xA hL hk]
   unfold kM;rw [List.flatMap_append,Gu L,<-ht];have z1:(cur.toList.take ((k+1)*3)).length=(k+1)*3:=by have:n+1<=cap:=hc;simp [hz];omega
   have z2:∀ X Y Z:List Value,X.length+Y.length=(n+1)*3->((X++Y++Z).toArray.toList).take ((n+1)*3)=X++Y:=fun X Y Z e=>List.take_left' (by rw [List.length_append];exact e)
   rw [z2 _ _ _ (by rw [z1,fl];omega),List.take_take,Nat.min_eq_left (by omega)]
 ·have QO:k=n:=by omega
  subst QO;have oG:(Builtin.copy_ #[24,24] o.type #[.slice dp (k-k) dC,.slice (some ⟨b,k*3,none⟩) (k+1-k) sC]).run prog w=.ok (AI 0) w:=by
   obtain ⟨i,hi,_,gH,_⟩:=info_parts nK;have hl:∀ (x:Addr),(loadCells x 0).run prog w=.ok #[] w:=fun x=>by simpa using run_loadCells_list (P:=prog) w x [] (by simp)
   cases dp<;>simp [Builtin.copy_,run_underlying underlying24,Builtin.lenOf,Builtin.firstCells,sizeOf,typeInfo,hi,storeCells,hl,goInt]
  unfold Oper.wp;simp only [execOp,ho,resolve,invoke,builtin,Sem.run_bind,Sem.run_pure,Result.andThen_ok,List.map_toArray,List.map_cons,List.map_nil,hd,hs,oG];have fe:kM L k k=L:=by unfold kM;rw [Nat.sub_self,List.take_zero,List.append_nil,List.take_of_length_le (by omega)]
  have:=h w (by rw [fe];exact iM) (Gx.refl _ w)
  simp [goInt] at this
  exact this
def dV (a b:Int):Int:=if a<b then -1 else if b<a then 1 else 0
theorem Q' (a b:Int):dV a b<0↔a<b:=by unfold dV;split<;>(try split)<;>omega
theorem Ra (a b:Int):dV a b=0↔a=b:=by unfold dV;split<;>(try split)<;>omega
theorem Gz (x:Int) (w:World):Calls prog 156 #[By x] w fun e w'=>e=.returned (.bool false)/\w'=w:=by
 go_enter func156,ntmps156;go_wp2;go_ret;exact ⟨by simp,rfl⟩
theorem acv (x y:Int) (w:World):Calls prog 136 #[By x,By y] w fun e w'=>e=.returned (AI (dV x y))/\w'=w:=by
 rcases Int.lt_trichotomy x y with h | h | h
 ·have H:ag (dV x y=-1):=by show _=_;unfold dV;rw [if_pos h]
  have t1:decide (x<y)=true:=by simpa using h
  clear h;go_enter func136,ntmps136;go_wp2_with (go_at_call 156;refine (Gz _ _).mono ?_;rintro e w' ⟨rfl,rfl⟩);go_ret;exact ⟨by rw [H.o];rfl,rfl⟩
 ·have H:ag (dV x y=0):=by show _=_;unfold dV;rw [if_neg (by omega),if_neg (by omega)]
  have t1:decide (x<y)=false:=by simp;omega
  have t2:decide (y<x)=false:=by simp;omega
  clear h;go_enter func136,ntmps136;go_wp2_with (go_at_call 156;refine (Gz _ _).mono ?_;rintro e w' ⟨rfl,rfl⟩);go_ret;exact ⟨by rw [H.o];rfl,rfl⟩
 ·have H:ag (dV x y=1):=by show _=_;unfold dV;rw [if_neg (by omega),if_pos h]
  have t1:decide (x<y)=false:=by simp;omega
  have t2:decide (y<x)=true:=by simpa using h
  clear h;go_enter func136,ntmps136;go_wp2_with (go_at_call 156;refine (Gz _ _).mono ?_;rintro e w' ⟨rfl,rfl⟩);go_ret;exact ⟨by rw [H.o];rfl,rfl⟩
theorem GH (k v:Int) (g:Bool) (y:Int) (w:World):Calls prog 113 #[.agg #[By k,By v,.bool g],By y] w fun e w'=>e=.returned (AI (dV k y))/\Gw w w':=by
 have CM:ag (∀ W,Calls prog 136 #[By k,By y] W fun e w'=>e=.returned (AI (dV k y))/\w'=W):=fun W=>acv k y W
 generalize dV k y=c at CM ⊢;go_enter func113,ntmps113;go_wp2_with fail;refine (CM.o _).mono ?_;rintro e w' ⟨rfl,rfl⟩;go_wp2_with fail;go_ret;exact ⟨rfl,(Gw.refl w).alloc _ _⟩
theorem acw (ao:Option Addr) (c:Nat) (l:List ah) (x:Int) (hn:l.length<=4000000) (w:World) (h:EL w ao l) (r:aG ah.k l) :
  Calls prog 112 #[.slice ao l.length c,By x,.func (.func 113) #[] #[]] w fun e w'=>e=.returned (.tuple #[AI (bD ah.k x l:Int),.bool (look ah.k x l).isSome])/\Gw w w':=by
 have HE:ag (EL w ao l):=h;have R:ag (aG ah.k l):=r;obtain ⟨n,au⟩:∃ n,l.length=n:=⟨_,rfl⟩;have LN:ag (l.length=n):=au;rw [au] at hn ⊢;have aL:ag (∀ (i:Nat) (t:Bool),i<=n->(∀ j y,j<i->l[j]?=some y->y.k<x)->(∀ y,l[i]?=some y->x<=y.k)->(t=true↔∃ y,l[i]?=some y/\y.k=x)->bD ah.k x l=i/\(look ah.k x l).isSome=t):=fun i t hi h1 h2 h3=>by
  have e:=NY (key:=ah.k) (k:=x) (l:=l) (i:=i) (by rw [LN.o];exact hi) h1 (fun y hy=>by have:=h2 y hy;omega)
  refine ⟨e,?_⟩;cases t with
  | true =>
   obtain ⟨y,hy,hk⟩:=h3.1 rfl;rw [aaV R.o (by rw [e];exact hy) hk];rfl
  | false =>
   rw [aaW R.o (fun y hy hk=>by rw [e] at hy;exact Bool.noConfusion (h3.2 ⟨y,hy,hk⟩))];rfl
 have ui:∀ (args:Array Value) (W:World),(callFunc 113 args).run prog W=.ok (.enter 113 args) W:=fun args W=>rfl
 have CELL:ag (∀ (i:Nat) (W:World),i<n->Gw w W->∃ (b off:Nat) (y:ah),ao=some ⟨b,off,none⟩/\l[i]?=some y/\W.cell? ⟨b,off+i*3,none⟩=some (By y.k)/\W.cell? ⟨b,off+i*3+1,none⟩=some (By y.v)/\W.cell? ⟨b,off+i*3+2,none⟩=some (.bool y.g)):=fun i W hi g=>by
  have gX:i<l.length:=by rw [LN.o];exact hi
  obtain ⟨b,off,e,_,hc⟩:=(HE.o.gw g).cells (by omega)
  obtain ⟨c0,c1,c2⟩:=hc i gX;refine ⟨b,off,l.getD i ax,e,by simp [List.getD,gX],c0,c1,c2⟩
 have Rb:ag (∀ (i j:Nat) (y z:ah),i<=j->l[i]?=some y->l[j]?=some z->y.k<=z.k):=fun i j y z vT hy hz=>by
  obtain ⟨i1,i2⟩:=List.getElem?_eq_some_iff.1 hy;obtain ⟨j1,j2⟩:=List.getElem?_eq_some_iff.1 hz;by_cases e:i=j
  ·subst e;rw [hy] at hz;cases hz;exact Int.le_refl _
  ·have:=(List.pairwise_iff_getElem.1 R.o) i j i1 j1 (by omega)
   rw [i2,j2] at this;omega
 clear h r au;go_enter func112,ntmps112;go_wp2_with fail;go_loopg [9,10] n (fun gg s7 s8 wr=>∃ lo hi:Nat,s7=AI lo/\s8=AI hi/\lo<=hi/\hi<=n/\hi-lo<=gg/\ag ((∀ j y,j<lo->l[j]?=some y->y.k<x)/\(∀ j y,hi<=j->l[j]?=some y->x<=y.k))/\ag (Gw w wr))
 case atStart=>exact ⟨0,n,rfl,rfl,Nat.zero_le _,Nat.le_refl _,by omega,⟨fun j y hj=>by omega,fun j y h1 h2=>by have:=(List.getElem?_eq_some_iff.1 h2).1;have:=LN.o;omega⟩,Gw.refl w⟩
 case round =>
  obtain ⟨lo,hi,rfl,rfl,hlh,je,hg,I,G⟩:=hrel;by_cases ar:lo<hi
  ·obtain ⟨b,off,y,e,hy,c0,c1,c2⟩:=CELL.o ((lo+hi)/2) wr (by omega) G.o
   subst e;obtain ⟨yk,yv,yg⟩:=y;have Y:ag (l[(lo+hi)/2]?=some ⟨yk,yv,yg⟩):=hy;have lL:wr.cell? ⟨b,off+(lo+hi)/2*3,none⟩=some (By yk):=c0;have ix:wr.cell? ⟨b,off+(lo+hi)/2*3+1,none⟩=some (By yv):=c1;have zs:wr.cell? ⟨b,off+(lo+hi)/2*3+2,none⟩=some (.bool yg):=c2;clear hy c0 c1 c2;by_cases kN:yk<x
   ·have t1:decide (dV yk x<0)=true:=by simpa [Q'] using kN
    have CC:ag (∀ W,Calls prog 113 #[.agg #[By yk,By yv,.bool yg],By x] W fun e w'=>e=.returned (AI (dV yk x))/\Gw W w'):=fun W=>GH yk yv yg x W
    have HX:ag (yk<x):=kN;clear kN ui;generalize dV yk x=cc at t1 CC;go_wp2_with fail;refine (CC.o _).mono ?_;rintro e w' ⟨rfl,lM⟩;have G':ag (Gw w w'):=G.o.trans lM;clear lM CC;go_wp2_with fail;go_roundg (hi-((lo+hi)/2+1))
    case measure=>omega
    case rel =>
     refine ⟨(lo+hi)/2+1,hi,by rw [show ((lo:Int)+(hi:Int))/2+1=(((lo+hi)/2+1:Nat):Int) by omega],rfl,by omega,je,Nat.le_refl _,(show ag _ from ⟨fun j z hj hz=>?_,I.o.2⟩),G'.o⟩
     have:=Rb.o j ((lo+hi)/2) z _ (by omega) hz Y.o
     have hx:=HX.o;simp at this;omega
   ·have t1:decide (dV yk x<0)=false:=by simpa [Q'] using kN
    have CC:ag (∀ W,Calls prog 113 #[.agg #[By yk,By yv,.bool yg],By x] W fun e w'=>e=.returned (AI (dV yk x))/\Gw W w'):=fun W=>GH yk yv yg x W
    have HX:ag (x<=yk):=by show _<=_;omega
    clear kN ui;generalize dV yk x=cc at t1 CC;go_wp2_with fail;refine (CC.o _).mono ?_;rintro e w' ⟨rfl,lM⟩;have G':ag (Gw w w'):=G.o.trans lM;clear lM CC;go_wp2_with fail;go_roundg ((lo+hi)/2-lo)
    case measure=>omega
    case rel =>
     refine ⟨lo,(lo+hi)/2,rfl,by rw [show ((lo:Int)+(hi:Int))/2=(((lo+hi)/2:Nat):Int) by omega],by omega,by omega,Nat.le_refl _,(show ag _ from ⟨I.o.1,fun j z hj hz=>?_⟩),G'.o⟩
     have:=Rb.o ((lo+hi)/2) j _ z hj Y.o hz
     have hx:=HX.o;simp at this;omega
  ·obtain rfl:hi=lo:=by omega
   by_cases xB:hi<n
   ·have fY:(hi:Int)<(n:Int):=by omega
    obtain ⟨b,off,y,e,hy,c0,c1,c2⟩:=CELL.o hi wr xB G.o;subst e;obtain ⟨yk,yv,yg⟩:=y;have Y:ag (l[hi]?=some ⟨yk,yv,yg⟩):=hy;have lL:wr.cell? ⟨b,off+hi*3,none⟩=some (By yk):=c0;have ix:wr.cell? ⟨b,off+hi*3+1,none⟩=some (By yv):=c1;have zs:wr.cell? ⟨b,off+hi*3+2,none⟩=some (.bool yg):=c2;clear hy c0 c1 c2;have CC:ag (∀ W,Calls prog 113 #[.agg #[By yk,By yv,.bool yg],By x] W fun e w'=>e=.returned (AI (dV yk x))/\Gw W w'):=fun W=>GH yk yv yg x W
    by_cases kN:yk=x
    ·have t1:(dV yk x == 0)=true:=by simpa [Ra] using kN
     obtain ⟨f1,f2⟩:=aL.o hi true je I.o.1 (fun y hy=>I.o.2 hi y (Nat.le_refl _) hy) ⟨fun _=>⟨_,Y.o,kN⟩,fun _=>rfl⟩
     have pR:ag (bD ah.k x l=hi/\(look ah.k x l).isSome=true):=⟨f1,f2⟩;clear kN f1 f2 ui;generalize dV yk x=cc at t1 CC;go_wp2_with fail;refine (CC.o _).mono ?_;rintro e w' ⟨rfl,lM⟩;have G':ag (Gw w w'):=G.o.trans lM;clear lM CC;go_wp2_with fail;go_ret2;exact ⟨by rw [pR.o.1,pR.o.2];rfl,G'.o⟩
    ·have t1:(dV yk x == 0)=false:=by simpa [Ra] using kN
     obtain ⟨f1,f2⟩:=aL.o hi false je I.o.1 (fun y hy=>I.o.2 hi y (Nat.le_refl _) hy) ⟨fun q=>Bool.noConfusion q,fun ⟨z,hz,hk⟩=>by rw [Y.o] at hz;cases hz;exact absurd hk kN⟩
     have pR:ag (bD ah.k x l=hi/\(look ah.k x l).isSome=false):=⟨f1,f2⟩;clear kN f1 f2 ui;generalize dV yk x=cc at t1 CC;go_wp2_with fail;refine (CC.o _).mono ?_;rintro e w' ⟨rfl,lM⟩;have G':ag (Gw w w'):=G.o.trans lM;clear lM CC;go_wp2_with fail;go_ret2;exact ⟨by rw [pR.o.1,pR.o.2];rfl,G'.o⟩
   ·have fY:decide ((hi:Int)<(n:Int))=false:=by simp;omega
    obtain ⟨f1,f2⟩:=aL.o hi false je I.o.1 (fun y hy=>I.o.2 hi y (Nat.le_refl _) hy) ⟨fun q=>Bool.noConfusion q,fun ⟨z,hz,hk⟩=>by have:=(List.getElem?_eq_some_iff.1 hz).1;have:=LN.o;omega⟩
    have pR:ag (bD ah.k x l=hi/\(look ah.k x l).isSome=false):=⟨f1,f2⟩;clear f1 f2 ui;go_wp2_with fail;go_ret2;exact ⟨by rw [pR.o.1,pR.o.2];rfl,G.o⟩
theorem Rc (p:Nat) (S:Nat->Prop) (most:Int) (l:List ah) (x:Int) (hn:l.length<=4000000) (w:World) (h:HB 115 w p S most l) :
  Calls prog 81 #[BY p,By x] w fun e w'=>e=.returned (.tuple #[AI (bD ah.k x l:Int),.bool (look ah.k x l).isSome])/\Gw w w':=by
 obtain ⟨v,h1,h2,h3,h4⟩:=h.lies;obtain ⟨bo,c,rfl,hc,_⟩:=pQ h2;have c1:=aj (o:=1) h1 rfl;have BS:ag (∀ W,Gw w W->Calls prog 112 #[.slice bo l.length c,By x,.func (.func 113) #[] #[]] W fun e w'=>e=.returned (.tuple #[AI (bD ah.k x l:Int),.bool (look ah.k x l).isSome])/\Gw W w'):=fun W g=>acw bo c l x hn W ((vS h2 h.ok).gw g) h.rise
 generalize bD ah.k x l=pp at BS ⊢;generalize (look ah.k x l).isSome=tt at BS ⊢;generalize l.length=n at BS c1;clear h h1 h2 h3 h4 hc hn;go_enter func81,ntmps81;go_wp2_with fail;refine (BS.o _ (Gw.refl w)).mono ?_;rintro e w' ⟨rfl,g⟩;have G:ag (Gw w w'):=g;clear g BS;go_wp2_with fail;go_ret2;exact ⟨rfl,G.o⟩
theorem xC {p o:Nat} {vs:Array Value} {v:Value} (h:w.heap[p]?=some (.cells vs t (0,0))):(w.setCell ⟨p,o,none⟩ v).heap[p]?=some (.cells (vs.setIfInBounds o v) t (0,0)):=by
 simp [World.setCell,Array.getElem?_modify,h]
theorem Rd {b:Nat} {x y z:Value} (h:w.heap[b]?=some (.cells #[x,y,z] t (0,0))) (e:ah):(((w.setCell ⟨b,0,none⟩ (By e.k)).setCell ⟨b,1,none⟩ (By e.v)).setCell ⟨b,2,none⟩ (.bool e.g)).cell? ⟨b,0,none⟩=some (By e.k)/\(((w.setCell ⟨b,0,none⟩ (By e.k)).setCell ⟨b,1,none⟩ (By e.v)).setCell ⟨b,2,none⟩ (.bool e.g)).cell? ⟨b,1,none⟩=some (By e.v)/\(((w.setCell ⟨b,0,none⟩ (By e.k)).setCell ⟨b,1,none⟩ (By e.v)).setCell ⟨b,2,none⟩ (.bool e.g)).cell? ⟨b,2,none⟩=some (.bool e.g):=by
 have h3:=xC (o:=2) (v:=.bool e.g) (xC (o:=1) (v:=By e.v) (xC (o:=0) (v:=By e.k) h));exact ⟨aj h3 rfl,aj h3 rfl,aj h3 rfl⟩
theorem acx (most:Int) (h1:1<=most) (h2:most<=4294967296) (w:World) :
  Calls prog 70 #[AI most] w fun e w'=>(e=.returned (.tuple #[BY (w.heap.size),AI 0])/\HB 115 w' w.heap.size (fun q=>q=w.heap.size) most [])/\Gw w w':=by
 have N:ag (HB 115 (w.alloc (.cells #[AI most,.slice none 0 0] 115)) w.heap.size (fun q=>q=w.heap.size) most []):=HB.new _ w most (by omega)
 have t1:decide (most<1)=false:=by simp;omega
 have t2:decide (4294967296<most)=false:=by simp;omega
 clear h1 h2;go_enter func70,ntmps70;go_wp2_with fail;go_ret2;exact ⟨⟨rfl,N.o⟩,(Gw.refl w).alloc _ _⟩
theorem Re (p:Nat) (S:Nat->Prop) (most:Int) (l:List ah) (w:World) (h:HB 115 w p S most l) :
  Calls prog 46 #[BY p] w fun e w'=>e=.returned (.bool ((l.length:Int) == most))/\Gw w w':=by
 obtain ⟨v,h1,h2,h3,h4⟩:=h.lies;obtain ⟨bo,c,rfl,hc,_⟩:=pQ h2;have c0:=aj (o:=0) h1 rfl;have c1:=aj (o:=1) h1 rfl;generalize l.length=n at c1 ⊢;clear h h1 h2 h3 h4 hc;go_enter func46,ntmps46;go_wp2_with fail
 try go_quiet (fail)
 try go_wp2_with fail
 go_ret
 first | exact ⟨rfl,Gw.refl w⟩ | exact ⟨rfl,(Gw.refl w).drewN _⟩
theorem acy (p:Nat) (S:Nat->Prop) (most:Int) (l:List ah) (w:World) (h:HB 115 w p S most l) :
  Calls prog 23 #[BY p] w fun e w'=>e=.returned (AI (l.length:Int))/\Gw w w':=by
 obtain ⟨v,h1,h2,h3,h4⟩:=h.lies;obtain ⟨bo,c,rfl,hc,_⟩:=pQ h2;have c1:=aj (o:=1) h1 rfl;generalize l.length=n at c1 ⊢;clear h h1 h2 h3 h4 hc;go_enter func23,ntmps23;go_wp2_with fail;go_ret;exact ⟨rfl,Gw.refl w⟩
theorem acz (p:Nat) (S:Nat->Prop) (most:Int) (l:List ah) (hm:0<=most) (w:World) (h:HB 115 w p S most l) :
  Calls prog 48 #[BY p] w fun e w'=>(∃ v',e=.returned v'/\EO w' 0 v' l/\(∀ q,v'.ownBlock=some q->S q/\q≠p)/\HB 115 w' p (fun q=>q=p) most [])/\Gx S w w':=by
 obtain ⟨v,h1,h2,h3,h4⟩:=h.lies;have c1:=aj (o:=1) h1 rfl;have f1:=bT (o:=1) h1;have hp:=aC h1;have aL:ag ((EO (w.setCell ⟨p,1,none⟩ (.slice none 0 0)) 0 v l/\(∀ q,v.ownBlock=some q->S q/\q≠p)/\HB 115 (w.setCell ⟨p,1,none⟩ (.slice none 0 0)) p (fun q=>q=p) most [])/\Gx S w (w.setCell ⟨p,1,none⟩ (.slice none 0 0))):=by
  refine ⟨⟨mL h2 fun q hq=>Go.Deep.blk_setCell_other _ _ _ _ (h3 q hq),fun q hq=>⟨(h4 q).2 (.inr hq),h3 q hq⟩,⟨⟨.slice none 0 0,?_,World.ownsRow_nil _ _ _ _,(fun q e=>by cases e),fun q=>⟨fun e=>.inl e,fun e=>e.elim id (fun x=>by cases x)⟩⟩,List.Pairwise.nil,(fun e he=>by cases he),by simpa using hm⟩⟩,(Gx.refl S w).set (.inl h.own) _ _⟩
  rw [xC h1];rfl
 obtain ⟨bo,c,rfl,hc,_⟩:=pQ h2;generalize l.length=n at c1 aL;clear h h1 h2 h3 h4 hc;go_enter func48,ntmps48;go_wp2_with fail;go_ret;exact ⟨⟨_,rfl,aL.o.1⟩,aL.o.2⟩
theorem acA (p:Nat) (S:Nat->Prop) (most:Int) (l:List ah) (x:Int) (hn:l.length<=4000000) (w:World) (h:HB 115 w p S most l) :
  Calls prog 49 #[BY p,By x] w fun e w'=>e=.returned (QZ (look ah.k x l))/\Gw w w':=by
 have FD:ag (∀ W,Gw w W->Calls prog 81 #[BY p,By x] W fun e w'=>e=.returned (.tuple #[AI (bD ah.k x l:Int),.bool (look ah.k x l).isSome])/\Gw W w'):=fun W g=>Rc p S most l x hn W (h.gw g)
 have H:ag (HB 115 w p S most l):=h;clear h;obtain ⟨bq,aE⟩:∃ b,w.heap.size=b:=⟨_,rfl⟩;have BQ:ag (w.heap.size=bq):=aE;have oi:ag (∀ u1,Gw (w.alloc (.cells #[By 0,By 0,.bool false] 75)) u1->u1.heap[bq]?=some (.cells #[By 0,By 0,.bool false] 75 (0,0))):=fun u1 gg=>by
  rw [<-BQ.o];exact (gg.below.block _ (by simp)).trans (heap_alloc_new _ _)
 cases hk:look ah.k x l with
 | none =>
  rw [hk] at FD;generalize bD ah.k x l=pp at FD;clear hk;go_enter func49,ntmps49;go_wp2_with fail;refine (FD.o _ ((Gw.refl w).alloc _ _)).mono ?_;rintro e u1 ⟨rfl,g⟩;have GG:ag (Gw w u1):=((Gw.refl w).alloc _ _).trans g;have NB:=oi.o u1 g;have m0:u1.cell? ⟨bq,0,none⟩=some (By 0):=aj NB rfl;have m1:u1.cell? ⟨bq,1,none⟩=some (By 0):=aj NB rfl;have m2:u1.cell? ⟨bq,2,none⟩=some (.bool false):=aj NB rfl;have z0:=bT (o:=0) NB;have z1:=bT (o:=1) NB;have z2:=bT (o:=2) NB;have bl:=aC NB;have TT:=Rd NB ax;simp only [ax] at TT;clear g FD NB oi;clear aE;go_wp2_with fail;exact bodyPost_ret (v:=.tuple #[.agg #[By 0,By 0,.bool false],.bool false]) (by simp [results,results49,go_sem,TT.1,TT.2.1,TT.2.2]) rfl ⟨rfl,((GG.o.setCell (Nat.le_of_eq BQ.o) _).setCell (Nat.le_of_eq BQ.o) _).setCell (Nat.le_of_eq BQ.o) _⟩
 | some y =>
  obtain ⟨f1,f2⟩:=NZ H.o.rise hk;have f3:=N6 H.o.rise hk;have CE:ag (∀ W,Gw w W->∃ (c b:Nat),W.cell? ⟨p,1,none⟩=some (.slice (some ⟨b,0,none⟩) l.length c)/\W.cell? ⟨b,bD ah.k x l*3,none⟩=some (By y.k)/\W.cell? ⟨b,bD ah.k x l*3+1,none⟩=some (By y.v)/\W.cell? ⟨b,bD ah.k x l*3+2,none⟩=some (.bool y.g)):=fun W g=>by
   obtain ⟨v,h1,h2,h3,h4⟩:=(H.o.gw g).lies;obtain ⟨bo,c,rfl,hc,_⟩:=pQ h2;obtain ⟨b,rfl,_,_,_,eT⟩:=EK h2 rfl (by omega)
   obtain ⟨a1,a2,a3⟩:=eT _ f3;have e:l.getD (bD ah.k x l) ax=y:=by simp [List.getD,f1]
   rw [e] at a1 a2 a3;exact ⟨c,b,aj (o:=1) h1 rfl,a1,a2,a3⟩
  rw [hk] at FD;obtain ⟨yk,yv,yg⟩:=y;generalize bD ah.k x l=pp at FD CE f3;generalize l.length=n at CE f3 hn;have f4:(pp:Int)<(n:Int):=by omega
  clear hk f1 f2 H;go_enter func49,ntmps49;go_wp2_with fail;refine (FD.o _ ((Gw.refl w).alloc _ _)).mono ?_;rintro e u1 ⟨rfl,g⟩;have GG:ag (Gw w u1):=((Gw.refl w).alloc _ _).trans g;obtain ⟨c,b,e1,e2,e3,e4⟩:=CE.o u1 GG.o;have e2':u1.cell? ⟨b,pp*3,none⟩=some (By yk):=e2;have e3':u1.cell? ⟨b,pp*3+1,none⟩=some (By yv):=e3;have e4':u1.cell? ⟨b,pp*3+2,none⟩=some (.bool yg):=e4;have NB:=oi.o u1 g;have m0:u1.cell? ⟨bq,0,none⟩=some (By 0):=aj NB rfl;have m1:u1.cell? ⟨bq,1,none⟩=some (By 0):=aj NB rfl;have m2:u1.cell? ⟨bq,2,none⟩=some (.bool false):=aj NB rfl;have z0:=bT (o:=0) NB;have z1:=bT (o:=1) NB;have z2:=bT (o:=2) NB;have bl:=aC NB;have TT:=Rd NB ⟨yk,yv,yg⟩;simp only at TT;clear g FD NB oi CE e2 e3 e4;clear aE;go_wp2_with fail;exact bodyPost_ret (v:=.tuple #[.agg #[By yk,By yv,.bool yg],.bool true]) (by simp [results,results49,go_sem,TT.1,TT.2.1,TT.2.2]) rfl ⟨rfl,((GG.o.setCell (Nat.le_of_eq BQ.o) _).setCell (Nat.le_of_eq BQ.o) _).setCell (Nat.le_of_eq BQ.o) _⟩
end Go.Proofs.YtcboobmfnmgldaaGreat
