import Derived.Test.YtaemofgeciklkaaGreatEGLaw
import Derived.Test.YtaemofgeciklkaaGreatEPMem
set_option linter.unusedVariables false
set_option maxHeartbeats 4000000
set_option maxRecDepth 100000
open Go.Proofs.Tryz
namespace Go.Proofs.YtaemofgeciklkaaGreat
open Go.RowKit
structure HB (t:TypeId) (w:World) (p:Nat) (S:Nat->Prop) (most:Int) (l:List ah):Prop where
 lies:∃ v,w.heap[p]?=some (.cells #[By most,v] t (0,0))/\EO w 0 v l/\(∀ q,v.ownBlock=some q->q≠p)/\∀ q,S q↔q=p\/v.ownBlock=some q
 rise:aH ah.k l
 ok:∀ e∈l,e.ok
 room:(l.length:Int)<=most
section
variable {t:TypeId} {w w':World} {p:Nat} {S:Nat->Prop} {most:Int} {l:List ah}
theorem HB.lt (h:HB t w p S most l):∀ q,S q->q<w.heap.size:=by
 obtain ⟨v,h1,h2,h3,h4⟩:=h.lies;intro q hq;rcases (h4 q).1 hq with rfl | e
 ·exact ak h1
 ·exact (World.ownsRow.lt h2 q e).2
theorem HB.own (h:HB t w p S most l):S p:=by obtain ⟨v,h1,h2,h3,h4⟩:=h.lies;exact (h4 p).2 (.inl rfl)
theorem HB.keep (h:HB t w p S most l) (k:∀ q,S q->w'.heap[q]?=w.heap[q]?):HB t w' p S most l:=by obtain ⟨v,h1,h2,h3,h4⟩:=h.lies;exact ⟨⟨v,(k p h.own).trans h1,lU h2 (fun q hq=>k q ((h4 q).2 (.inr hq))),h3,h4⟩,h.rise,h.ok,h.room⟩
theorem HB.gw (h:HB t w p S most l) (g:Gw w w'):HB t w' p S most l:=h.keep fun q hq=>g.below.block q (h.lt q hq)
theorem HB.gx {T:Nat->Prop} (h:HB t w p S most l) (g:Gx T w w') (d:∀ q,S q->¬ T q):HB t w' p S most l:=h.keep fun q hq=>g.block q (h.lt q hq) (d q hq)
theorem HB.new (t:TypeId) (w:World) (most:Int) (h:0<=most):HB t (w.alloc (.cells #[By most,.slice none 0 0] t)) w.heap.size (fun q=>q=w.heap.size) most [] :=
 ⟨⟨.slice none 0 0,Ω w _,qaL _ _ _ _,(fun q e=>by cases e),fun q=>⟨fun e=>.inl e,fun e=>e.elim id (fun x=>by cases x)⟩⟩,List.Pairwise.nil,(fun e he=>by cases he),by simpa using h⟩
end
variable {w:World} {l:List ah}
theorem fg {base:Nat} {v:Value} (h:EO w base v l):∃ bo c,v=.slice bo l.length c/\l.length<=c/\(bo=none->l.length=0/\c=0):=by
 rcases h.2 with ⟨e,z⟩ | ⟨b,cap,cur,e,hb,hh,hc,_⟩
 ·exact ⟨none,0,by rw [e,z],ω,fun _=>⟨z,rfl⟩⟩
 ·exact ⟨_,cap,e,hc,fun x=>by cases x⟩
def mj (most:Int) (l:List ah) (e:ah):Int×List ah:=if e.g=true/\e.v≠0 then (31,l) else if look ah.k e.k l=none/\(l.length:Int)=most then (140,l) else (0,ins ah.k e l)
def jv (t:TypeId) (w w':World) (p:Nat) (S:Nat->Prop) (most:Int) (l:List ah):Prop:=∃ S',HB t w' p S' most l/\Gx S w w'/\∀ q,S' q->S q\/w.heap.size<=q
variable {t:TypeId}
theorem jv.same {w':World} {p:Nat} {S:Nat->Prop} {most:Int} (h:HB t w p S most l) (g:Gw w w'):jv t w w' p S most l:=⟨S,h.gw g,g.gx S,fun q hq=>.inl hq⟩
def ad5 (e:ah):Value:=.agg #[BY e.k,BY e.v,.bool e.g]
def Ud (o:Option ah):Value:=.tuple #[ad5 (o.getD aq),.bool o.isSome]
theorem Dl:∀ (l:List ah) (k:Nat),(l.take k).flatMap aI=(l.flatMap aI).take (k*3)
 | [],k=>ε
 | s::l,0=>ε
 | s::l,k+1=>by rw [qbj,qaK,qaK,Dl l k,show (k+1)*3=(aI s).length+k*3 by show _=3+_;omega,List.take_length_add_append]
theorem Jw:∀ (l:List ah) (k:Nat),(l.drop k).flatMap aI=(l.flatMap aI).drop (k*3)
 | [],k=>ε
 | s::l,0=>ε
 | s::l,k+1=>by rw [List.drop_succ_cons,qaK,Jw l k,show (k+1)*3=(aI s).length+k*3 by show _=3+_;omega,List.drop_length_add_append]
theorem ad6 (w:World) (ty:TypeId) (g o Jy ad7:Nat) (a:Addr) (Jz ad8:Nat) (cur:Array Value) (t:TypeId) (cs:List Value)
  (hg:w.heap[g]?=some (.cells cur t (0,0))) (hn:cs.length=Nat.min Jz Jy*3)
  (ad9:∀ j v,cs[j]?=some v->w.cell? (a.add j)=some v) (ad':o+cs.length<=cur.size) (h1:∀ v∈cs,v.oneCell'=true) :
  (Builtin.copy_ #[72,72] ty #[ψ g o Jy ad7,.slice (some a) Jz ad8]).run prog w =
   .ok (goInt (Nat.min Jz Jy)) (w.setRow g (cur.toList.take o++cs++cur.toList.drop (o+cs.length)).toArray):=by
 have hl:=run_loadCells_list (P:=prog) w a cs ad9;have eX:=run_storeCells_at prog g o t cs 0 cur w hg (by simpa using ad') h1
 obtain ⟨i,hi,_,hs,_⟩:=info_parts kZ;rw [hn] at hl;simp [Builtin.copy_,run_underlying underlying72,Builtin.lenOf,Builtin.firstCells,sizeOf,typeInfo,hi,hs,hl,eX]
def mq (L:List ah) (n k:Nat):List ah:=L.take (k+1)++(L.drop k).take (n-k)
theorem zt {L:List ah} {n k:Nat} (h:L.length=n+1) (hk:k<=n):(mq L n k).length=n+1:=by unfold mq;rw [Ψ,qav,qav,qax];omega
theorem aea {e0 e:ah} {k:Nat} (hk:k<=l.length):(mq (l++[e0]) l.length k).set k e=l.take k++e::l.drop k:=by
 unfold mq;rw [List.set_append_left _ _ ζ];have a:((l++[e0]).take (k+1)).set k e=l.take k++[e]:=by
  by_cases q:k<l.length
  ·rw [List.take_append_of_le_length ω,List.set_eq_take_append_cons_drop,Ym ζ,List.take_take,qaU ω,qbp ζ]
  ·have e:k=l.length:=(by omega);subst e;rw [qaQ ε];simp
 rw [a,qaI,List.singleton_append];congr 2;rw [List.drop_append_of_le_length hk,List.take_append_of_le_length ε];rw [qaQ ε]
theorem Ue {ops:Array Oper} {o:Oper} {a:Act} {w:World} {K:Act->World->Prop} {Q:Exit->Act->World->Prop} {E:Prop} (kT:o.guard=none) (d s:Operand)
  (ho:o.op=.call { callee:=.builtin .copy,args:=#[d,s],argTypes:=#[72,72] })
  (b cap n k:Nat) (L:List ah) (fM:EO w 0 (ψ b 0 (n+1) cap) L) (hL:L.length=n+1) (hk:k<=n)
  (dp:Option Addr) (dL dC:Nat) (so sL sC:Nat) (hd:a.eval d=.slice dp dL dC) (hs:a.eval s=ψ b so sL sC) (hdL:dL=n-k) (hsL:sL=n+1-k) (hso:so=k*3) (hdp:k<n->dp=some (φ b ((k+1)*3)))
  (h:∀ w',EO w' 0 (ψ b 0 (n+1) cap) (mq L n k)->Gx (fun q=>q=b) w w'->K (a.put o.dst (goInt (n-k:Nat))) w') :
  if Region.wanted o (yielded ops a.tmps)=true then Oper.wp prog o a w K Q else E:=by
 have hw:Region.wanted o (yielded ops a.tmps)=true:=by simp [Region.wanted,kT]
 rw [Ym hw];subst hdL hsL hso;have Uf:Nat.min (n+1-k) (n-k)=n-k:=Nat.min_eq_right ω;rcases fM.2 with ⟨z,_⟩ | ⟨b',gH,cur,e,hb,hh,hc,hm,hz,ht⟩
 ·cases z
 injection e with e1 e2 e3;injection e1 with e1;injection e1 with e1;subst e1 e3;rw [hL] at hc ht;have aeb:w.ownsRow 0 71 3 (ψ b 0 (n+1) cap) (n+1) (L.flatMap aI):=by
  have:=fM
  unfold EO at this;rw [hL] at this;exact this
 by_cases kn:k<n
 ·have:=hdp kn
  subst this;have cl:((L.drop k).take (n-k)).length=n-k:=by simp;omega
  have fl:=tO ((L.drop k).take (n-k));rw [cl] at fl;have qH:=ad6 w o.type b ((k+1)*3) (n-k) dC ⟨b,k*3,none⟩ (n+1-k) sC cur _ (((L.drop k).take (n-k)).flatMap aI) hh (by rw [fl,Uf]) (fun j v hj=>by
    have mT:j<(n-k)*3:=by
     have:=(qaT.1 hj).1
     rwa [fl] at this
    rw [Dl,Jw,List.getElem?_take_of_lt mT,List.getElem?_drop] at hj;have:=World.ownsRow.cellAt aeb (k*3+j) ω;rw [Addr.add_lit];exact this.trans hj) (by rw [fl,hz];have:n+1<=cap:=hc;omega) (yL _)
  rw [Uf] at qH;unfold Oper.wp;simp only [execOp,ho,resolve,invoke,builtin,Sem.run_bind,Sem.run_pure,Result.andThen_ok,List.map_toArray,qaw,List.map_nil,hd,hs,qH];refine h _ ⟨?_,.inr ⟨b,cap,_,?_,hb,setRow_heap w b cur _ _ _ hh,?_,hm,?_,?_⟩⟩ ⟨rfl,rfl,rfl,by simp [World.setRow],fun q hq hn=>setRow_other w b q _ hn⟩
  ·rw [tO]
  ·rw [zt hL hk]
  ·rw [zt hL hk];exact hc
  ·have:n+1<=cap:=hc
   rw [List.size_toArray,Ψ,Ψ,fl,qav,qax,Array.length_toList,hz];omega
  ·rw [zt hL hk]
   unfold mq;rw [List.flatMap_append,Dl L,<-ht];have z1:(cur.toList.take ((k+1)*3)).length=(k+1)*3:=(by have:n+1<=cap:=hc;simp [hz];omega);have z2:∀ X Y Z:List Value,X.length+Y.length=(n+1)*3->((X++Y++Z).toArray.toList).take ((n+1)*3)=X++Y:=fun X Y Z e=>List.take_left' (by rw [Ψ];exact e)
   rw [z2 _ _ _ (by rw [z1,fl];omega),List.take_take,qaU ω]
 ·have Uc:k=n:=by omega
  subst Uc;have qH:(Builtin.copy_ #[72,72] o.type #[.slice dp (k-k) dC,ψ b (k*3) (k+1-k) sC]).run prog w=.ok (By 0) w:=by
   obtain ⟨i,hi,_,eI,_⟩:=info_parts kZ;have hl:∀ (x:Addr),(loadCells x 0).run prog w=.ok #[] w:=fun x=>by simpa using run_loadCells_list (P:=prog) w x [] ε
   cases dp<;>simp [Builtin.copy_,run_underlying underlying72,Builtin.lenOf,Builtin.firstCells,sizeOf,typeInfo,hi,storeCells,hl,goInt]
  unfold Oper.wp;simp only [execOp,ho,resolve,invoke,builtin,Sem.run_bind,Sem.run_pure,Result.andThen_ok,List.map_toArray,qaw,List.map_nil,hd,hs,qH];have fe:mq L k k=L:=by unfold mq;rw [Nat.sub_self,List.take_zero,qaJ,qaQ ω]
  have:=h w (by rw [fe];exact fM) (Gx.refl _ w)
  simp [goInt] at this
  exact this
def eO (a b:Int):Int:=if a<b then -1 else if b<a then 1 else 0
theorem Ug (a b:Int):eO a b<0↔a<b:=by unfold eO;split<;>(try split)<;>omega
theorem Uh (a b:Int):eO a b=0↔a=b:=by unfold eO;split<;>(try split)<;>omega
theorem JA (x:Int) (w:World):Calls prog 135 #[BY x] w fun e w'=>e=χ (.bool false)/\w'=w:=by go_enter func135,ntmps135;go_wp2;go_ret;exact ⟨ε,rfl⟩
theorem aec (x y:Int) (w:World):Calls prog 121 #[BY x,BY y] w fun e w'=>e=χ (By (eO x y))/\w'=w:=by
 rcases Int.lt_trichotomy x y with h | h | h
 ·have H:ag (eO x y=-1):=by show _=_;unfold eO;rw [Ym h]
  have t1:decide (x<y)=true:=by simpa using h
  clear h;go_enter func121,ntmps121;go_wp2_with (go_at_call 135;refine (JA _ _).mono ?_;rintro e w' ⟨rfl,rfl⟩);go_ret;exact ⟨by rw [H.o];rfl,rfl⟩
 ·have H:ag (eO x y=0):=by show _=_;unfold eO;rw [Yl ω,Yl ω]
  have t1:decide (x<y)=false:=by simp;omega
  have t2:decide (y<x)=false:=by simp;omega
  clear h;go_enter func121,ntmps121;go_wp2_with (go_at_call 135;refine (JA _ _).mono ?_;rintro e w' ⟨rfl,rfl⟩);go_ret;exact ⟨by rw [H.o];rfl,rfl⟩
 ·have H:ag (eO x y=1):=by show _=_;unfold eO;rw [Yl ω,Ym h]
  have t1:decide (x<y)=false:=by simp;omega
  have t2:decide (y<x)=true:=by simpa using h
  clear h;go_enter func121,ntmps121;go_wp2_with (go_at_call 135;refine (JA _ _).mono ?_;rintro e w' ⟨rfl,rfl⟩);go_ret;exact ⟨by rw [H.o];rfl,rfl⟩
theorem JB (k v:Int) (g:Bool) (y:Int) (w:World):Calls prog 106 #[.agg #[BY k,BY v,.bool g],BY y] w fun e w'=>e=χ (By (eO k y))/\Gw w w':=by
 have CM:ag (∀ W,Calls prog 121 #[BY k,BY y] W fun e w'=>e=χ (By (eO k y))/\w'=W):=fun W=>aec k y W
 generalize eO k y=c at CM ⊢;go_enter func106,ntmps106;go_wp2_with fail;refine (CM.o _).mono ?_;rintro e w' ⟨rfl,rfl⟩;go_wp2_with fail;go_ret;exact ⟨rfl,(Gw.refl w).alloc _ _⟩
theorem aed (ao:Option Addr) (c:Nat) (l:List ah) (x:Int) (hn:l.length<=4000000) (w:World) (h:EL w ao l) (r:aH ah.k l) :
  Calls prog 105 #[.slice ao l.length c,BY x,.func (.func 106) #[] #[]] w fun e w'=>e=π #[By (aV ah.k x l:Int),.bool (look ah.k x l).isSome]/\Gw w w':=by
 have HE:ag (EL w ao l):=h;have R:ag (aH ah.k l):=r;obtain ⟨n,ax⟩:=qbr l.length;have LN:ag (l.length=n):=ax;rw [ax] at hn ⊢;have aD:ag (∀ (i:Nat) (t:Bool),i<=n->(∀ j y,j<i->l[j]?=some y->y.k<x)->(∀ y,l[i]?=some y->x<=y.k)->(t=true↔∃ y,l[i]?=some y/\y.k=x)->aV ah.k x l=i/\(look ah.k x l).isSome=t):=fun i t hi h1 h2 h3=>by
  have e:=Cl (key:=ah.k) (k:=x) (l:=l) (i:=i) (by rw [LN.o];exact hi) h1 (fun y hy=>by have:=h2 y hy;omega)
  refine ⟨e,?_⟩;cases t with
  | true =>
   obtain ⟨y,hy,hk⟩:=h3.1 rfl;rw [Qy R.o (by rw [e];exact hy) hk];rfl
  | false =>
   rw [acA R.o (fun y hy hk=>by rw [e] at hy;exact Bool.noConfusion (h3.2 ⟨y,hy,hk⟩))];rfl
 have wG:∀ (args:Array Value) (W:World),(callFunc 106 args).run prog W=.ok (.enter 106 args) W:=fun args W=>rfl
 have CELL:ag (∀ (i:Nat) (W:World),i<n->Gw w W->∃ (b off:Nat) (y:ah),ao=some (φ b off)/\l[i]?=some y/\W.cell? (φ b (off+i*3))=some (BY y.k)/\W.cell? (φ b (off+i*3+1))=some (BY y.v)/\W.cell? (φ b (off+i*3+2))=some (.bool y.g)):=fun i W hi g=>by
  have dQ:i<l.length:=by rw [LN.o];exact hi
  obtain ⟨b,off,e,_,hc⟩:=(HE.o.gw g).cells ω;obtain ⟨c0,c1,c2⟩:=hc i dQ;refine ⟨b,off,l.getD i aq,e,by simp [List.getD,dQ],c0,c1,c2⟩
 have Ui:ag (∀ (i j:Nat) (y z:ah),i<=j->l[i]?=some y->l[j]?=some z->y.k<=z.k):=fun i j y z yK hy hz=>by
  obtain ⟨i1,i2⟩:=qaT.1 hy;obtain ⟨j1,j2⟩:=qaT.1 hz;by_cases e:i=j
  ·subst e;rw [hy] at hz;cases hz;exact qaH _
  ·have:=(List.pairwise_iff_getElem.1 R.o) i j i1 j1 ω
   rw [i2,j2] at this;omega
 clear h r ax;go_enter func105,ntmps105;go_wp2_with fail;go_loopg [9,10] n (fun gg s7 s8 wr=>∃ lo hi:Nat,s7=By lo/\s8=By hi/\lo<=hi/\hi<=n/\hi-lo<=gg/\ag ((∀ j y,j<lo->l[j]?=some y->y.k<x)/\(∀ j y,hi<=j->l[j]?=some y->x<=y.k))/\ag (Gw w wr))
 case atStart=>exact ⟨0,n,rfl,rfl,Γ _,Yk _,ω,⟨fun j y hj=>ω,fun j y h1 h2=>by have:=(qaT.1 h2).1;have:=LN.o;omega⟩,Gw.refl w⟩
 case round =>
  obtain ⟨lo,hi,rfl,rfl,hlh,jS,hg,I,G⟩:=hrel;by_cases ar:lo<hi
  ·obtain ⟨b,off,y,e,hy,c0,c1,c2⟩:=CELL.o ((lo+hi)/2) wr ω G.o
   subst e;obtain ⟨yk,yv,yg⟩:=y;have Y:ag (l[(lo+hi)/2]?=some ⟨yk,yv,yg⟩):=hy;have nP:wr.cell? (φ b (off+(lo+hi)/2*3))=some (BY yk):=c0;have iC:wr.cell? (φ b (off+(lo+hi)/2*3+1))=some (BY yv):=c1;have Bb:wr.cell? (φ b (off+(lo+hi)/2*3+2))=some (.bool yg):=c2;clear hy c0 c1 c2;by_cases mu:yk<x
   ·have t1:decide (eO yk x<0)=true:=(by simpa [Ug] using mu);have CC:ag (∀ W,Calls prog 106 #[.agg #[BY yk,BY yv,.bool yg],BY x] W fun e w'=>e=χ (By (eO yk x))/\Gw W w'):=fun W=>JB yk yv yg x W
    have HX:ag (yk<x):=mu;clear mu wG;generalize eO yk x=cc at t1 CC;go_wp2_with fail;refine (CC.o _).mono ?_;rintro e w' ⟨rfl,nQ⟩;have G':ag (Gw w w'):=G.o.trans nQ;clear nQ CC;go_wp2_with fail;go_roundg (hi-((lo+hi)/2+1))
    case measure=>omega
    case rel =>
     refine ⟨(lo+hi)/2+1,hi,by rw [show ((lo:Int)+(hi:Int))/2+1=(((lo+hi)/2+1:Nat):Int) by omega],rfl,ω,jS,Yk _,(show ag _ from ⟨fun j z hj hz=>?_,I.o.2⟩),G'.o⟩
     have:=Ui.o j ((lo+hi)/2) z _ ω hz Y.o
     have hx:=HX.o;simp at this;omega
   ·have t1:decide (eO yk x<0)=false:=(by simpa [Ug] using mu);have CC:ag (∀ W,Calls prog 106 #[.agg #[BY yk,BY yv,.bool yg],BY x] W fun e w'=>e=χ (By (eO yk x))/\Gw W w'):=fun W=>JB yk yv yg x W
    have HX:ag (x<=yk):=(by show _<=_;omega);clear mu wG;generalize eO yk x=cc at t1 CC;go_wp2_with fail;refine (CC.o _).mono ?_;rintro e w' ⟨rfl,nQ⟩;have G':ag (Gw w w'):=G.o.trans nQ;clear nQ CC;go_wp2_with fail;go_roundg ((lo+hi)/2-lo)
    case measure=>omega
    case rel =>
     refine ⟨lo,(lo+hi)/2,rfl,by rw [show ((lo:Int)+(hi:Int))/2=(((lo+hi)/2:Nat):Int) by omega],ω,ω,Yk _,(show ag _ from ⟨I.o.1,fun j z hj hz=>?_⟩),G'.o⟩
     have:=Ui.o ((lo+hi)/2) j _ z hj Y.o hz
     have hx:=HX.o;simp at this;omega
  ·obtain rfl:hi=lo:=by omega
   by_cases zu:hi<n
   ·have hJ:(hi:Int)<(n:Int):=(by omega);obtain ⟨b,off,y,e,hy,c0,c1,c2⟩:=CELL.o hi wr zu G.o;subst e;obtain ⟨yk,yv,yg⟩:=y;have Y:ag (l[hi]?=some ⟨yk,yv,yg⟩):=hy;have nP:wr.cell? (φ b (off+hi*3))=some (BY yk):=c0;have iC:wr.cell? (φ b (off+hi*3+1))=some (BY yv):=c1;have Bb:wr.cell? (φ b (off+hi*3+2))=some (.bool yg):=c2;clear hy c0 c1 c2;have CC:ag (∀ W,Calls prog 106 #[.agg #[BY yk,BY yv,.bool yg],BY x] W fun e w'=>e=χ (By (eO yk x))/\Gw W w'):=fun W=>JB yk yv yg x W
    by_cases mu:yk=x
    ·have t1:(eO yk x == 0)=true:=(by simpa [Uh] using mu);obtain ⟨f1,f2⟩:=aD.o hi true jS I.o.1 (fun y hy=>I.o.2 hi y (Yk _) hy) ⟨fun _=>⟨_,Y.o,mu⟩,fun _=>rfl⟩
     have rP:ag (aV ah.k x l=hi/\(look ah.k x l).isSome=true):=⟨f1,f2⟩;clear mu f1 f2 wG;generalize eO yk x=cc at t1 CC;go_wp2_with fail;refine (CC.o _).mono ?_;rintro e w' ⟨rfl,nQ⟩;have G':ag (Gw w w'):=G.o.trans nQ;clear nQ CC;go_wp2_with fail;go_ret2;exact ⟨by rw [rP.o.1,rP.o.2];rfl,G'.o⟩
    ·have t1:(eO yk x == 0)=false:=(by simpa [Uh] using mu);obtain ⟨f1,f2⟩:=aD.o hi false jS I.o.1 (fun y hy=>I.o.2 hi y (Yk _) hy) ⟨fun q=>Bool.noConfusion q,fun ⟨z,hz,hk⟩=>by rw [Y.o] at hz;cases hz;exact absurd hk mu⟩
     have rP:ag (aV ah.k x l=hi/\(look ah.k x l).isSome=false):=⟨f1,f2⟩;clear mu f1 f2 wG;generalize eO yk x=cc at t1 CC;go_wp2_with fail;refine (CC.o _).mono ?_;rintro e w' ⟨rfl,nQ⟩;have G':ag (Gw w w'):=G.o.trans nQ;clear nQ CC;go_wp2_with fail;go_ret2;exact ⟨by rw [rP.o.1,rP.o.2];rfl,G'.o⟩
   ·have hJ:decide ((hi:Int)<(n:Int))=false:=(by simp;omega);obtain ⟨f1,f2⟩:=aD.o hi false jS I.o.1 (fun y hy=>I.o.2 hi y (Yk _) hy) ⟨fun q=>Bool.noConfusion q,fun ⟨z,hz,hk⟩=>by have:=(qaT.1 hz).1;have:=LN.o;omega⟩
    have rP:ag (aV ah.k x l=hi/\(look ah.k x l).isSome=false):=⟨f1,f2⟩;clear f1 f2 wG;go_wp2_with fail;go_ret2;exact ⟨by rw [rP.o.1,rP.o.2];rfl,G.o⟩
theorem Uj (p:Nat) (S:Nat->Prop) (most:Int) (l:List ah) (x:Int) (hn:l.length<=4000000) (w:World) (h:HB 114 w p S most l) :
  Calls prog 80 #[IS p,BY x] w fun e w'=>e=π #[By (aV ah.k x l:Int),.bool (look ah.k x l).isSome]/\Gw w w':=by
 obtain ⟨v,h1,h2,h3,h4⟩:=h.lies;obtain ⟨bo,c,rfl,hc,_⟩:=fg h2;have c1:=aj (o:=1) h1 rfl;have BS:ag (∀ W,Gw w W->Calls prog 105 #[.slice bo l.length c,BY x,.func (.func 106) #[] #[]] W fun e w'=>e=π #[By (aV ah.k x l:Int),.bool (look ah.k x l).isSome]/\Gw W w'):=fun W g=>aed bo c l x hn W ((je h2 h.ok).gw g) h.rise
 generalize aV ah.k x l=pp at BS ⊢;generalize (look ah.k x l).isSome=tt at BS ⊢;generalize l.length=n at BS c1;clear h h1 h2 h3 h4 hc hn;go_enter func80,ntmps80;go_wp2_with fail;refine (BS.o _ (Gw.refl w)).mono ?_;rintro e w' ⟨rfl,g⟩;have G:ag (Gw w w'):=g;clear g BS;go_wp2_with fail;go_ret2;exact ⟨rfl,G.o⟩
theorem uj {p o:Nat} {vs:Array Value} {v:Value} (h:w.heap[p]?=some (.cells vs t (0,0))):(w.setCell (φ p o) v).heap[p]?=some (.cells (vs.setIfInBounds o v) t (0,0)):=by simp [World.setCell,Array.getElem?_modify,h]
theorem Uk {b:Nat} {x y z:Value} (h:w.heap[b]?=some (.cells #[x,y,z] t (0,0))) (e:ah):(((w.setCell (φ b 0) (BY e.k)).setCell (φ b 1) (BY e.v)).setCell (φ b 2) (.bool e.g)).cell? (φ b 0)=some (BY e.k)/\(((w.setCell (φ b 0) (BY e.k)).setCell (φ b 1) (BY e.v)).setCell (φ b 2) (.bool e.g)).cell? (φ b 1)=some (BY e.v)/\(((w.setCell (φ b 0) (BY e.k)).setCell (φ b 1) (BY e.v)).setCell (φ b 2) (.bool e.g)).cell? (φ b 2)=some (.bool e.g):=by have h3:=uj (o:=2) (v:=.bool e.g) (uj (o:=1) (v:=BY e.v) (uj (o:=0) (v:=BY e.k) h));exact ⟨aj h3 rfl,aj h3 rfl,aj h3 rfl⟩
theorem aee (most:Int) (h1:1<=most) (h2:most<=4294967296) (w:World) :
  Calls prog 79 #[By most] w fun e w'=>(e=π #[IS (w.heap.size),By 0]/\HB 114 w' w.heap.size (fun q=>q=w.heap.size) most [])/\Gw w w':=by
 have N:ag (HB 114 (w.alloc (.cells #[By most,.slice none 0 0] 114)) w.heap.size (fun q=>q=w.heap.size) most []):=HB.new _ w most ω
 have t1:decide (most<1)=false:=by simp;omega
 have t2:decide (4294967296<most)=false:=by simp;omega
 clear h1 h2;go_enter func79,ntmps79;go_wp2_with fail;go_ret2;exact ⟨⟨rfl,N.o⟩,(Gw.refl w).alloc _ _⟩
theorem Ul (p:Nat) (S:Nat->Prop) (most:Int) (l:List ah) (w:World) (h:HB 114 w p S most l) :
  Calls prog 50 #[IS p] w fun e w'=>e=χ (.bool ((l.length:Int) == most))/\Gw w w':=by
 obtain ⟨v,h1,h2,h3,h4⟩:=h.lies;obtain ⟨bo,c,rfl,hc,_⟩:=fg h2;have c0:=aj (o:=0) h1 rfl;have c1:=aj (o:=1) h1 rfl;generalize l.length=n at c1 ⊢;clear h h1 h2 h3 h4 hc;go_enter func50,ntmps50;go_wp2_with fail
 try go_quiet (fail)
 try go_wp2_with fail
 go_ret
 first | exact ⟨rfl,Gw.refl w⟩ | exact ⟨rfl,(Gw.refl w).drewN _⟩
theorem aef (p:Nat) (S:Nat->Prop) (most:Int) (l:List ah) (w:World) (h:HB 114 w p S most l) :
  Calls prog 36 #[IS p] w fun e w'=>e=χ (By (l.length:Int))/\Gw w w':=by
 obtain ⟨v,h1,h2,h3,h4⟩:=h.lies;obtain ⟨bo,c,rfl,hc,_⟩:=fg h2;have c1:=aj (o:=1) h1 rfl;generalize l.length=n at c1 ⊢;clear h h1 h2 h3 h4 hc;go_enter func36,ntmps36;go_wp2_with fail;go_ret;exact ⟨rfl,Gw.refl w⟩
theorem aeg (v:Value) (l:List ah) (hn:l.length<=4000000) (w:World) (h:EO w 0 v l) (ok:∀ e∈l,e.ok) :
  Calls prog 96 #[v] w fun e w'=>(∃ v',e=χ v'/\EO w' w.heap.size v' l)/\Gw w w':=by
 obtain ⟨ao,cp,rfl,hc,hz⟩:=fg h;have HE:=je h ok;obtain ⟨n,ax⟩:=qbr l.length;have LN:ag (l.length=n):=ax;cases ao with
 | none =>
  obtain ⟨z1,z2⟩:=hz rfl;have l0:l=[]:=qbd z1;subst l0 z2;clear h hc hz HE LN ax;have hq:∀ W:World,(binOp .eql 72 (.slice none 0 0) (.slice none 0 0)).run prog W=.ok (.bool true) W:=fun _=>η
  simp only [List.length_nil];go_enter func96,ntmps96;go_wp2_with fail;go_ret;exact ⟨⟨_,rfl,qaL _ _ _ _⟩,Gw.refl w⟩
 | some ad =>
  have O0:ag ((w.alloc (.cells #[] 71)).ownsRow w.heap.size 71 3 (ψ w.heap.size 0 0 0) 0 []):=World.ownsRow_made w #[] 0 (Yk _) (Γ _) rfl;have NW:ag (∀ x,(some ad:Option Addr)=some x->∀ j u,(l.flatMap aI)[j]?=some u->(w.alloc (.cells #[] 71)).cell? (x.add j)=some u):=Cv (HE.gw ((Gw.refl w).alloc _ _));obtain ⟨ii,aK,hz,hs,aJ⟩:=info_parts kZ;rw [ax] at hn hc ⊢;have FL:ag ((l.flatMap aI).length=n*3):=by show _=_;rw [tO,LN.o]
  clear h HE ax;have hq:∀ W:World,(binOp .eql 72 (.slice (some ad) n cp) (.slice none 0 0)).run prog W=.ok (.bool false) W:=fun _=>η
  go_enter func96,ntmps96;go_wp2_with (at_builtin;refine qG _ rfl _ _ 72 rfl w.heap.size 71 ii (.agg #[BY 0,BY 0,.bool false]) 3 24 underlying72 aK hz hs aJ rfl γ _ 0 [] rfl O0.o (some ad) n cp (l.flatMap aI) rfl (fun q=>by cases q) FL.o NW.o (yL l) θ ω ε ?_)
  intro v' w7 q1 q2 q3;have G7:ag (Gw w w7):=((Gw.refl w).alloc _ _).grown q2 (fun k hk=>by cases hk;exact Yk _)
  have R5:EO w7 w.heap.size v' l:=by show World.ownsRow _ _ _ _ _ _ _;rw [LN.o];simpa using q1
  obtain ⟨bo,bc,rfl,_,_⟩:=fg R5;have av:ag (EO w7 w.heap.size (.slice bo l.length bc) l):=R5;clear q1 q2 q3 aK hz hs aJ R5;go_wp2_with fail;go_ret;exact ⟨⟨_,rfl,av.o⟩,G7.o⟩
theorem Um (p:Nat) (S:Nat->Prop) (most:Int) (l:List ah) (hn:l.length<=4000000) (w:World) (h:HB 114 w p S most l) :
  Calls prog 58 #[IS p] w fun e w'=>(∃ v',e=χ v'/\EO w' w.heap.size v' l)/\Gw w w':=by
 obtain ⟨v,h1,h2,h3,h4⟩:=h.lies;have c1:=aj (o:=1) h1 rfl;have CL:ag (Calls prog 96 #[v] w fun e w'=>(∃ v',e=χ v'/\EO w' w.heap.size v' l)/\Gw w w'):=aeg v l hn w h2 h.ok
 obtain ⟨bo,c,rfl,hc,_⟩:=fg h2;clear h h1 h2 h3 h4 hc hn;generalize l.length=n at CL c1;go_enter func58,ntmps58;go_wp2_with fail;refine CL.o.mono ?_;rintro e w' ⟨⟨v',rfl,r⟩,g⟩;have R:ag (EO w' w.heap.size v' l):=r;have G:ag (Gw w w'):=g;clear r g CL;obtain ⟨ze,c',rfl,hc,_⟩:=fg R.o;go_wp2_with fail;go_ret;exact ⟨⟨_,rfl,R.o⟩,G.o⟩
theorem aeh (p:Nat) (S:Nat->Prop) (most:Int) (l:List ah) (hm:0<=most) (w:World) (h:HB 114 w p S most l) :
  Calls prog 52 #[IS p] w fun e w'=>(∃ v',e=χ v'/\EO w' 0 v' l/\(∀ q,v'.ownBlock=some q->S q/\q≠p)/\HB 114 w' p (fun q=>q=p) most [])/\Gx S w w':=by
 obtain ⟨v,h1,h2,h3,h4⟩:=h.lies;have c1:=aj (o:=1) h1 rfl;have f1:=bC (o:=1) h1;have hp:=ak h1;have aD:ag ((EO (w.setCell (φ p 1) (.slice none 0 0)) 0 v l/\(∀ q,v.ownBlock=some q->S q/\q≠p)/\HB 114 (w.setCell (φ p 1) (.slice none 0 0)) p (fun q=>q=p) most [])/\Gx S w (w.setCell (φ p 1) (.slice none 0 0))):=by
  refine ⟨⟨lU h2 fun q hq=>qac _ _ _ _ (h3 q hq),fun q hq=>⟨(h4 q).2 (.inr hq),h3 q hq⟩,⟨⟨.slice none 0 0,?_,qaL _ _ _ _,(fun q e=>by cases e),fun q=>⟨fun e=>.inl e,fun e=>e.elim id (fun x=>by cases x)⟩⟩,List.Pairwise.nil,(fun e he=>by cases he),by simpa using hm⟩⟩,(Gx.refl S w).set (.inl h.own) _ _⟩
  rw [uj h1];rfl
 obtain ⟨bo,c,rfl,hc,_⟩:=fg h2;generalize l.length=n at c1 aD;clear h h1 h2 h3 h4 hc;go_enter func52,ntmps52;go_wp2_with fail;go_ret;exact ⟨⟨_,rfl,aD.o.1⟩,aD.o.2⟩
theorem aei (p:Nat) (S:Nat->Prop) (most:Int) (l:List ah) (x:Int) (hn:l.length<=4000000) (w:World) (h:HB 114 w p S most l) :
  Calls prog 66 #[IS p,BY x] w fun e w'=>e=χ (Ud (look ah.k x l))/\Gw w w':=by
 have FD:ag (∀ W,Gw w W->Calls prog 80 #[IS p,BY x] W fun e w'=>e=π #[By (aV ah.k x l:Int),.bool (look ah.k x l).isSome]/\Gw W w'):=fun W g=>Uj p S most l x hn W (h.gw g)
 have H:ag (HB 114 w p S most l):=h;clear h;obtain ⟨bq,aE⟩:=qbr w.heap.size;have BQ:ag (w.heap.size=bq):=aE;have mw:ag (∀ u1,Gw (w.alloc (.cells #[BY 0,BY 0,.bool false] 71)) u1->u1.heap[bq]?=some (.cells #[BY 0,BY 0,.bool false] 71 (0,0))):=fun u1 gg=>by rw [<-BQ.o];exact (gg.below.block _ ε).trans (Ω _ _)
 cases hk:look ah.k x l with
 | none =>
  rw [hk] at FD;generalize aV ah.k x l=pp at FD;clear hk;go_enter func66,ntmps66;go_wp2_with fail;refine (FD.o _ ((Gw.refl w).alloc _ _)).mono ?_;rintro e u1 ⟨rfl,g⟩;have GG:ag (Gw w u1):=((Gw.refl w).alloc _ _).trans g;have NB:=mw.o u1 g;have m0:u1.cell? (φ bq 0)=some (BY 0):=aj NB rfl;have m1:u1.cell? (φ bq 1)=some (BY 0):=aj NB rfl;have m2:u1.cell? (φ bq 2)=some (.bool false):=aj NB rfl;have z0:=bC (o:=0) NB;have z1:=bC (o:=1) NB;have z2:=bC (o:=2) NB;have bl:=ak NB;have TT:=Uk NB aq;simp only [aq] at TT;clear g FD NB mw;clear aE;go_wp2_with fail;exact bodyPost_ret (v:=.tuple #[.agg #[BY 0,BY 0,.bool false],.bool false]) (by simp [results,results66,go_sem,TT.1,TT.2.1,TT.2.2]) rfl ⟨rfl,((GG.o.setCell (qad BQ.o) _).setCell (qad BQ.o) _).setCell (qad BQ.o) _⟩
 | some y =>
  obtain ⟨f1,f2⟩:=Ih H.o.rise hk;have f3:=Cn H.o.rise hk;have CE:ag (∀ W,Gw w W->∃ (c b:Nat),W.cell? (φ p 1)=some (ψ b 0 l.length c)/\W.cell? (φ b (aV ah.k x l*3))=some (BY y.k)/\W.cell? (φ b (aV ah.k x l*3+1))=some (BY y.v)/\W.cell? (φ b (aV ah.k x l*3+2))=some (.bool y.g)):=fun W g=>by obtain ⟨v,h1,h2,h3,h4⟩:=(H.o.gw g).lies;obtain ⟨bo,c,rfl,hc,_⟩:=fg h2;obtain ⟨b,rfl,_,_,_,oJ⟩:=Ip h2 rfl ω;obtain ⟨a1,a2,a3⟩:=oJ _ f3;have e:l.getD (aV ah.k x l) aq=y:=(by simp [List.getD,f1]);rw [e] at a1 a2 a3;exact ⟨c,b,aj (o:=1) h1 rfl,a1,a2,a3⟩
  rw [hk] at FD;obtain ⟨yk,yv,yg⟩:=y;generalize aV ah.k x l=pp at FD CE f3;generalize l.length=n at CE f3 hn;have f4:(pp:Int)<(n:Int):=ω;clear hk f1 f2 H;go_enter func66,ntmps66;go_wp2_with fail;refine (FD.o _ ((Gw.refl w).alloc _ _)).mono ?_;rintro e u1 ⟨rfl,g⟩;have GG:ag (Gw w u1):=((Gw.refl w).alloc _ _).trans g;obtain ⟨c,b,e1,e2,e3,e4⟩:=CE.o u1 GG.o;have e2':u1.cell? (φ b (pp*3))=some (BY yk):=e2;have e3':u1.cell? (φ b (pp*3+1))=some (BY yv):=e3;have e4':u1.cell? (φ b (pp*3+2))=some (.bool yg):=e4;have NB:=mw.o u1 g;have m0:u1.cell? (φ bq 0)=some (BY 0):=aj NB rfl;have m1:u1.cell? (φ bq 1)=some (BY 0):=aj NB rfl;have m2:u1.cell? (φ bq 2)=some (.bool false):=aj NB rfl;have z0:=bC (o:=0) NB;have z1:=bC (o:=1) NB;have z2:=bC (o:=2) NB;have bl:=ak NB;have TT:=Uk NB ⟨yk,yv,yg⟩;simp only at TT;clear g FD NB mw CE e2 e3 e4;clear aE;go_wp2_with fail;exact bodyPost_ret (v:=.tuple #[.agg #[BY yk,BY yv,.bool yg],.bool true]) (by simp [results,results66,go_sem,TT.1,TT.2.1,TT.2.2]) rfl ⟨rfl,((GG.o.setCell (qad BQ.o) _).setCell (qad BQ.o) _).setCell (qad BQ.o) _⟩
