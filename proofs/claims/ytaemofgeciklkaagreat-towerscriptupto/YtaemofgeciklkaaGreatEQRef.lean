import Derived.Test.YtaemofgeciklkaaGreatEPEl
import Derived.Test.YtaemofgeciklkaaGreatEQMem
set_option linter.unusedVariables false
set_option maxHeartbeats 4000000
set_option maxRecDepth 20000
open Go.Proofs.Tryz
namespace Go.Proofs.YtaemofgeciklkaaGreat
open Go.RowKit
theorem ae8 (most:Int) (h1:1<=most) (h2:most<=4294967296) (w:World) :
  Calls prog 20 #[By most] w fun e w'=>(e=π #[IS (w.heap.size),By 0]/\HB 79 w' w.heap.size (fun q=>q=w.heap.size) most [])/\Gw w w':=by
 have N:ag (HB 79 (w.alloc (.cells #[By most,.slice none 0 0] 79)) w.heap.size (fun q=>q=w.heap.size) most []):=HB.new _ w most ω
 have t1:decide (most<1)=false:=by simp;omega
 have t2:decide (4294967296<most)=false:=by simp;omega
 clear h1 h2;go_enter func20,ntmps20;go_wp2_with fail;go_ret2;exact ⟨⟨rfl,N.o⟩,(Gw.refl w).alloc _ _⟩
theorem ae9 (p:Nat) (S:Nat->Prop) (most:Int) (l:List ah) (w:World) (h:HB 79 w p S most l) :
  Calls prog 55 #[IS p] w fun e w'=>e=χ (.bool ((l.length:Int) == most))/\Gw w w':=by
 obtain ⟨v,h1,h2,h3,h4⟩:=h.lies;obtain ⟨bo,c,rfl,hc,_⟩:=fg h2;have c0:=aj (o:=0) h1 rfl;have c1:=aj (o:=1) h1 rfl;generalize l.length=n at c1 ⊢;clear h h1 h2 h3 h4 hc;go_enter func55,ntmps55;go_wp2_with fail
 try go_quiet (fail)
 try go_wp2_with fail
 go_ret
 first | exact ⟨rfl,Gw.refl w⟩ | exact ⟨rfl,(Gw.refl w).drewN _⟩
theorem ae' (p:Nat) (S:Nat->Prop) (most:Int) (l:List ah) (hm:0<=most) (w:World) (h:HB 79 w p S most l) :
  Calls prog 57 #[IS p] w fun e w'=>(∃ v',e=χ v'/\EO w' 0 v' l/\(∀ q,v'.ownBlock=some q->S q/\q≠p)/\HB 79 w' p (fun q=>q=p) most [])/\Gx S w w':=by
 obtain ⟨v,h1,h2,h3,h4⟩:=h.lies;have c1:=aj (o:=1) h1 rfl;have f1:=bC (o:=1) h1;have hp:=ak h1;have aD:ag ((EO (w.setCell (φ p 1) (.slice none 0 0)) 0 v l/\(∀ q,v.ownBlock=some q->S q/\q≠p)/\HB 79 (w.setCell (φ p 1) (.slice none 0 0)) p (fun q=>q=p) most [])/\Gx S w (w.setCell (φ p 1) (.slice none 0 0))):=by
  refine ⟨⟨lU h2 fun q hq=>qac _ _ _ _ (h3 q hq),fun q hq=>⟨(h4 q).2 (.inr hq),h3 q hq⟩,⟨⟨.slice none 0 0,?_,qaL _ _ _ _,(fun q e=>by cases e),fun q=>⟨fun e=>.inl e,fun e=>e.elim id (fun x=>by cases x)⟩⟩,List.Pairwise.nil,(fun e he=>by cases he),by simpa using hm⟩⟩,(Gx.refl S w).set (.inl h.own) _ _⟩
  rw [uj h1];rfl
 obtain ⟨bo,c,rfl,hc,_⟩:=fg h2;generalize l.length=n at c1 aD;clear h h1 h2 h3 h4 hc;go_enter func57,ntmps57;go_wp2_with fail;go_ret;exact ⟨⟨_,rfl,aD.o.1⟩,aD.o.2⟩
theorem afa (p:Nat) (S:Nat->Prop) (most:Int) (l:List ah) (x:Int) (hn:l.length<=4000000) (w:World) (h:HB 79 w p S most l) :
  Calls prog 90 #[IS p,BY x] w fun e w'=>e=χ (By (aV ah.k x l:Int))/\w'=w:=by
 obtain ⟨v,h1,h2,h3,h4⟩:=h.lies;obtain ⟨bo,c,rfl,hc,_⟩:=fg h2;have c1:=aj (o:=1) h1 rfl;have HE:ag (EL w bo l):=je h2 h.ok;obtain ⟨n,ax⟩:=qbr l.length;have LN:ag (l.length=n):=ax;rw [ax] at hn;have iC:w.cell? (φ p 1)=some (.slice bo n c):=by rw [<-ax];exact c1
 clear h h1 h2 h3 h4 hc c1 ax;go_enter func90,ntmps90;go_wp2_with fail;go_loopg [5] n (fun gg s wr=>∃ i:Nat,s=By (i:Int)/\i<=n/\n-i<=gg/\ag (∀ t y,t<i->l[t]?=some y->y.k<x)/\wr=w)
 case atStart=>exact ⟨0,rfl,Γ _,ω,(show ag _ from fun j y hj=>ω),rfl⟩
 case round =>
  obtain ⟨i,rfl,a1,a2,LO,rfl⟩:=hrel;by_cases ar:i<n
  ·have dH:(i:Int)<(n:Int):=(by omega);obtain ⟨lb,iJ,rfl,dO,bL⟩:=HE.o.cells (by rw [LN.o];omega)
   obtain ⟨kc,_,_⟩:=bL i (by rw [LN.o];exact ar)
   have AT:ag (l[i]?=some (l.getD i aq)):=(by show _=_;simp [List.getD,show i<l.length by rw [LN.o];exact ar]);clear bL;generalize l.getD i aq=y at AT kc;obtain ⟨yk,yv,yg⟩:=y;have Q':wr.cell? (φ lb (iJ+i*3))=some (BY yk):=kc;clear kc;by_cases e:yk<x
   ·have t1:decide (yk<x)=true:=(by simpa using e);have LO':ag (∀ t y,t<i+1->l[t]?=some y->y.k<x):=fun t y ht hy=>by
     by_cases q:t=i
     ·rw [q,AT.o] at hy;cases hy;exact e
     ·exact LO.o t y ω hy
    clear e LO;go_wp2_with fail;go_roundg (n-(i+1))
    case measure=>omega
    case rel=>exact ⟨i+1,by go_num,ω,Yk _,LO',rfl⟩
   ·have t1:decide (yk<x)=false:=(by simpa using e);have gI:ag (aV ah.k x l=i):=Cl (by rw [LN.o];omega) LO.o (fun y hy=>by rw [AT.o] at hy;cases hy;exact e)
    clear e LO;go_wp2_with fail;go_ret;exact ⟨by rw [gI.o];rfl,rfl⟩
  ·have ei:i=n:=(by omega);subst ei;have gI:ag (aV ah.k x l=i):=Cl (by rw [LN.o];omega) LO.o (fun y hy=>by have:=(qaT.1 hy).1;have:=LN.o;omega)
   clear LO;go_wp2_with fail;go_ret;exact ⟨by rw [gI.o];rfl,rfl⟩
theorem afb {P:Program} (w:World) {ops:Array Oper} {o:Oper} {a:Act} {K:Act->World->Prop} {Q:Exit->Act->World->Prop} {E:Prop} (kT:o.guard=none) (s x:Operand) (t:TypeId)
  (ho:o.op=.call { callee:=.builtin .append,args:=#[s,x],argTypes:=#[t,t] })
  (base:Nat) (e:TypeId) (i:TypeInfo) (z:Value) (size bytes:Nat) (ht:P.underlying t=some (.slice e)) (hi:P.info? e=some i) (hz:i.zero=some z)
  (mL:i.size=size) (aJ:i.bytes=bytes) (mM:z.cells.size=size) (cF:0<size)
  (v:Value) (n:Nat) (xs:List Value) (hs:a.eval s=v) (fM:w.ownsRow base e size v n xs)
  (ao:Option Addr) (m c:Nat) (news:List Value) (hx:a.eval x=.slice ao m c) (sK:ao=none->m=0/\c=0) (hl:news.length=m*size) (jA:∀ ad,ao=some ad->∀ j u,news[j]?=some u->w.cell? (ad.add j)=some u) (h1:∀ u∈news,u.oneCell'=true)
  (mO:n+m<=maxLen) (mP:(n+m)*bytes<=140737488355328) (mQ:base<=w.heap.size)
  (h:∀ v' w',w'.ownsRow base e size v' (n+m) (xs++news)->w.grownBy w' v.ownBlock->K (a.put o.dst v') w') :
  if Region.wanted o (yielded ops a.tmps)=true then Oper.wp P o a w K Q else E:=by
 cases ao with
 | some ad=>exact Jb w kT s x t ho base e i z size bytes ht hi hz mL aJ mM cF v n xs hs fM ad m c news hx hl (jA ad rfl) h1 mO mP mQ (fun v' w' a1 a2 _ _=>h v' w' a1 a2)
 | none =>
  obtain ⟨rfl,rfl⟩:=sK rfl;have hn:news=[]:=qbd (by simpa using hl)
  subst hn;have hw:Region.wanted o (yielded ops a.tmps)=true:=by simp [Region.wanted,kT]
  rw [Ym hw];have qH:=run_append_owned_none (P:=P) w base t o.type e i size ht hi v n xs fM;unfold Oper.wp execOp;simp only [ho,resolve,invoke,builtin,Sem.run_bind,Sem.run_pure,Result.andThen_ok,List.map_toArray,qaw,List.map_nil,hs,hx,qH];exact h v w (by simpa using fM) (World.grownBy.refl _ _)
theorem afc (p:Nat) (S:Nat->Prop) (most:Int) (l:List ah) (hn:l.length<=4000000) (w:World) (h:HB 79 w p S most l) :
  Calls prog 23 #[IS p] w fun e w'=>(∃ p' S',e=χ (.pointer (some (φ p' 0)))/\HB 79 w' p' S' most l/\∀ q,S' q->w.heap.size<=q)/\Gw w w':=by
 obtain ⟨v,h1,h2,h3,h4⟩:=h.lies;obtain ⟨ao,cp,rfl,hc,iZ⟩:=fg h2;obtain ⟨ii,aK,hz,hs,aJ⟩:=info_parts kZ;have c0:w.cell? (φ p 0)=some (By most):=aj h1 rfl;have c1:w.cell? (φ p 1)=some (.slice ao l.length cp):=aj h1 rfl;have pl:=ak h1;have KP:ag (∀ W,Gw w W->W.cell? (φ p 0)=some (By most)/\p<W.heap.size):=fun W g=>by have x:=(g.below.block p (ak h1)).trans h1;exact ⟨aj x rfl,ak x⟩
 have aD:ag (∀ W v,EO W w.heap.size v l->Gw w W->(∃ p' S',Ending.returned (IS (W.heap.size))=χ (.pointer (some (φ p' 0)))/\HB 79 (W.alloc (.cells #[By most,v] 79)) p' S' most l/\∀ q,S' q->w.heap.size<=q)/\Gw w (W.alloc (.cells #[By most,v] 79))):=fun W v ho g=>by
  refine ⟨⟨_,fun q=>q=W.heap.size\/v.ownBlock=some q,rfl,⟨⟨v,Ω W _,tI (nC ho ((Gw.refl W).alloc _ _)) (Γ _),fun q hq=>Nat.ne_of_lt (World.ownsRow.lt ho q hq).2,fun q=>Iff.rfl⟩,h.rise,h.ok,h.room⟩,fun q hq=>?_⟩,g.alloc _ _⟩
  rcases hq with x | x
  ·rw [x];exact g.size
  ·exact (World.ownsRow.lt ho q x).1
 have HE:ag (EL w ao l):=je h2 h.ok;have NW:ag (∀ W,Gw w W->∀ ad,ao=some ad->∀ j u,(l.flatMap aI)[j]?=some u->W.cell? (ad.add j)=some u):=fun W g=>Cv (HE.o.gw g)
 have O0:ag ((w.drew.alloc (.cells #[] 71)).ownsRow w.heap.size 71 3 (ψ w.heap.size 0 0 0) 0 []):=World.ownsRow_made w.drew #[] 0 (Yk _) (Γ _) rfl;have G0:ag (Gw w (w.drew.alloc (.cells #[] 71))):=(Gw.refl w).drew.alloc _ _;obtain ⟨n,ax⟩:=qbr l.length;have LN:ag (l.length=n):=ax;have FL:ag ((l.flatMap aI).length=n*3):=by show _=_;rw [tO,LN.o]
 rw [ax] at c1 hn iZ;have Z0:ag (ao=none->n=0/\cp=0):=iZ;clear h h1 h2 h3 h4 ax iZ hc HE;go_enter func23,ntmps23;go_wp2_with fail;go_region_law (refine afb _ rfl (.tmp 7) (.tmp 11) 72 rfl w.heap.size 71 ii (.agg #[BY 0,BY 0,.bool false]) 3 24 underlying72 aK hz hs aJ rfl γ _ 0 [] rfl O0.o ao n cp (l.flatMap aI) rfl Z0.o FL.o (NW.o _ G0.o) (yL l) θ ω G0.o.size ?_;intro v7 w7 r1 r2;have E7:ag (EO w7 w.heap.size v7 l):=(by show World.ownsRow _ _ _ _ _ _ _;rw [LN.o];simpa using r1);have G7:ag (Gw w w7):=(G0.o.grown r2 (fun q hq=>by cases hq;exact Yk _));have F7:ag _:=aD.o w7 v7 E7.o G7.o;obtain ⟨c7,l7⟩:=KP.o w7 G7.o;obtain ⟨bo7,cc7,ev7,_,_⟩:=fg E7.o;subst ev7;clear r1 r2)
 all_goals go_wp2_with fail
 all_goals go_ret
 all_goals exact F7.o
