/- The document's layer 11: a run in memory, and what it is asked. -/
import Derived.Test.YtcboobmfnmgldaaGreatBPZa
import Derived.Test.YtcboobmfnmgldaaGreatBPE3
set_option linter.unusedVariables false
set_option maxHeartbeats 4000000
set_option maxRecDepth 10000
open Go.Proofs.Tryz
namespace Go.Proofs.YtcboobmfnmgldaaGreat
open Go.RowKit
attribute [local go_sem] iy
abbrev mC (k v:Int) (g:Bool):Value:=.agg #[By k,By v,.bool g]
def qV (k v:Nat->Int) (g:Nat->Bool) (n:Nat) (i:Int):Value×Int:=if 0<=i/\i<n then (mC (k i.toNat) (v i.toNat) (g i.toNat),0) else (mC 0 0 false,1)
def jm (k v:Nat->Int) (g:Nat->Bool) (n:Nat) (q:Int):Value×Bool:=if aA k q n<n/\k (aA k q n)=q then (mC (k (aA k q n)) (v (aA k q n)) (g (aA k q n)),true) else (mC 0 0 false,false)
variable {w:World}
theorem ES.kept {u:World} {eo:Option Addr} {n:Nat} {k v:Nat->Int} {g:Nat->Bool} {base:Nat} (h:ES u eo n k v g) (hb:∀ a,eo=some a->base<=a.block) (hs:u.heap.size<=w.heap.size) (hk:∀ q,base<=q->q<u.heap.size->w.heap[q]?=u.heap[q]?):ES w eo n k v g:=by
 refine ⟨fun hn=>?_,h.bd⟩
 obtain ⟨b,off,e,eP,hc⟩:=h.cells hn;have bb:base<=b:=hb _ e;have eq:∀ o,w.cell? ⟨b,o,none⟩=u.cell? ⟨b,o,none⟩:=fun o=>World.cell?_of_block (a:=⟨b,o,none⟩) (hk b bb eP)
 exact ⟨b,off,e,by omega,fun i hi=>⟨(eq _).trans (hc i hi).1,(eq _).trans (hc i hi).2.1,(eq _).trans (hc i hi).2.2⟩⟩
structure bI (w:World) (p:Nat) (S:Nat->Prop) (eps:Int) (k v:Nat->Int) (g:Nat->Bool) (n:Nat) (L:List (List Sg)):Prop where
 lies:∃ (u:World) (base:Nat) (eo:Option Addr) (ec:Nat) (lo:Option Addr) (lc:Nat),(∀ q,S q↔base<=q/\q<u.heap.size)/\u.heap.size<=w.heap.size/\(∀ q,base<=q->q<u.heap.size->w.heap[q]?=u.heap[q]?)/\u.heap[p]?=some (.cells #[.slice eo n ec,AI eps,.slice lo L.length lc] 94 (0,0))/\base<=p/\ES u eo n k v g/\(∀ a,eo=some a->base<=a.block)/\gT u base lo L/\n<=ec/\(eo=none->n=0/\ec=0)
 n1:n<=2000000
 sh:mq L
section
variable {w:World} {p:Nat} {S:Nat->Prop} {eps:Int} {k v:Nat->Int} {g:Nat->Bool} {n:Nat} {L:List (List Sg)}
theorem bI.lt (h:bI w p S eps k v g n L):∀ q,S q->q<w.heap.size:=by
 obtain ⟨u,base,ko,kc,lo,lc,h1,h2,_⟩:=h.lies;intro q hq;have:=(h1 q).1 hq;omega
theorem bI.keep {w':World} (h:bI w p S eps k v g n L) (kk:∀ q,S q->w'.heap[q]?=w.heap[q]?):bI w' p S eps k v g n L:=by
 obtain ⟨u,base,ko,kc,lo,lc,h1,h2,h3,h4,h5,h6⟩:=h.lies;have pu:p<u.heap.size:=(Array.getElem?_eq_some_iff.1 h4).1;refine ⟨⟨u,base,ko,kc,lo,lc,h1,?_,fun q a b=>(kk q ((h1 q).2 ⟨a,b⟩)).trans (h3 q a b),h4,h5,h6⟩,h.n1,h.sh⟩
 have e:=kk (u.heap.size-1) ((h1 _).2 ⟨by omega,by omega⟩)
 rw [Array.getElem?_eq_getElem (show u.heap.size-1<w.heap.size by omega)] at e
 have:=(Array.getElem?_eq_some_iff.1 e).1
 omega
theorem bI.gw {w':World} (h:bI w p S eps k v g n L) (gg:Gw w w'):bI w' p S eps k v g n L:=h.keep fun q hq=>gg.below.block q (h.lt q hq)
theorem bI.opened (h:bI w p S eps k v g n L):∃ eo ec lo lc,w.heap[p]?=some (.cells #[.slice eo n ec,AI eps,.slice lo L.length lc] 94 (0,0))/\ES w eo n k v g/\VS w lo L:=by
 obtain ⟨u,base,ko,kc,lo,lc,h1,h2,h3,h4,h5,h6,h7,h8,_⟩:=h.lies;have pu:p<u.heap.size:=(Array.getElem?_eq_some_iff.1 h4).1;exact ⟨ko,kc,lo,lc,(h3 p h5 pu).trans h4,h6.kept h7 h2 h3,(h8.keep (fun q a b=>h3 q a b) h2).vs⟩
end
variable {w:World}
theorem zV {p:Nat} {a b c:Value} {t:TypeId} (h:w.heap[p]?=some (.cells #[a,b,c] t (0,0))):w.cell? ⟨p,0,none⟩=some a/\w.cell? ⟨p,1,none⟩=some b/\w.cell? ⟨p,2,none⟩=some c:=by
 refine ⟨?_,?_,?_⟩<;>simp [World.cell?,h]
theorem aaM {p:Nat} {S:Nat->Prop} {eps:Int} {k v:Nat->Int} {g:Nat->Bool} {n:Nat} {L:List (List Sg)} (h:bI w p S eps k v g n L) (up:Up k n) (q:Int) :
  Calls prog 135 #[BY p,By q] w fun e w'=>e=.returned (.tuple #[(jm k v g n q).1,.bool (jm k v g n q).2])/\Gw w w':=by
 have HD:ag _:=h;have hn:=h.n1;have qW:ag (∀ j,j<n->k j=q->jm k v g n q=(mC (k j) (v j) (g j),true)):=fun j hj e=>by
  obtain ⟨a,b⟩:=oV up q n (Nat.le_refl _);have c1:aA k q n<=j:=by
   rcases Nat.lt_or_ge j (aA k q n) with x | x
   ·have:=a j x;omega
   ·exact x
  have c2:aA k q n=j:=by
   rcases Nat.lt_or_ge (aA k q n) j with x | x
   ·have x1:=b (aA k q n) (Nat.le_refl _) (by omega)
    have x2:=up.lt x hj;omega
   ·omega
  unfold jm;rw [c2,if_pos ⟨hj,e⟩]
 have NO:ag ((∀ j,j<n->k j≠q)->jm k v g n q=(mC 0 0 false,false)):=fun x=>by
  unfold jm;rw [if_neg (fun y=>x _ y.1 y.2)]
 obtain ⟨⟨V,B⟩,hV⟩:∃ r,jm k v g n q=r:=⟨_,rfl⟩;rw [hV] at qW NO ⊢;clear h hV up;go_enter func135,ntmps135;go_wp2_with fail;obtain ⟨bb,nL⟩:∃ bb,w.heap.size=bb:=⟨_,rfl⟩;have BB:ag _:=nL;rw [nL];clear nL;go_loopg [6] n (fun gg s5 wr=>∃ j:Nat,s5=AI (j:Int)/\j<=n/\n-j<=gg/\ag (∀ i,i<j->k i≠q)/\ag (Gw (w.alloc (.cells #[By 0,By 0,.bool false] 75)) wr))
 case atStart=>exact ⟨0,rfl,Nat.zero_le _,by omega,(show ag _ from fun i hi=>by omega),(show ag _ from Gw.refl _)⟩
 case round =>
  obtain ⟨j,rfl,a1,a2,NE,G⟩:=hrel;obtain ⟨wS,bj⟩:∃ wx,wx=wr:=⟨_,rfl⟩;subst bj;obtain ⟨eo,ec,lo,lc,h1,hk,hv⟩:=(HD.o.gw (((Gw.refl w).alloc _ _).trans G.o)).opened;obtain ⟨c0,c1,c2⟩:=zV h1;have pl:p<wS.heap.size:=(Array.getElem?_eq_some_iff.1 h1).1;have bx:wS.heap[bb]?=some (.cells #[By 0,By 0,.bool false] 75 (0,0)):=by rw [<-BB.o];exact (G.o.below.block _ (by simp)).trans (heap_alloc_new w _)
  obtain ⟨x0,x1,x2⟩:=zV bx;have z0:wS.frozen? ⟨bb,0,none⟩=false:=by simp [World.frozen?,bx]
  have z1:wS.frozen? ⟨bb,1,none⟩=false:=by simp [World.frozen?,bx]
  have z2:wS.frozen? ⟨bb,2,none⟩=false:=by simp [World.frozen?,bx]
  have zb:bb<wS.heap.size:=(Array.getElem?_eq_some_iff.1 bx).1;clear h1 hv c1 c2 bx;by_cases ar:j<n
  ·obtain ⟨kb,ko,rfl,jk,dY⟩:=hk.cells (by omega)
   obtain ⟨d1,d2,d3⟩:=dY j ar;have tN:(j:Int)<(n:Int):=by omega
   by_cases c:k j=q
   ·have R:ag ((V,B)=(mC (k j) (v j) (g j),true)):=qW.o j ar c
    have t1:(k j == q)=true:=by simpa using c
    generalize k j=kj at d1 t1 R;generalize v j=vj at d2 R;generalize g j=gj at d3 R;clear hk dY c;have r:=R.o;simp only [Prod.mk.injEq] at r;obtain ⟨rfl,rfl⟩:=r;clear R qW NO;go_wp2_with fail;have hb:w.heap.size<=bb:=Nat.le_of_eq BB.o;have gg:Gw w wS:=((Gw.refl w).alloc _ _).trans G.o;exact bodyPost_ret (v:=.tuple #[.agg #[By kj,By vj,.bool gj],.bool true]) (by simp [results,results135,go_sem,x0,x1,x2]) rfl ⟨rfl,((gg.setCell hb _).setCell hb _).setCell hb _⟩
   ·have N2:ag (∀ i,i<j+1->k i≠q):=fun i hi=>by
     by_cases x:i=j
     ·rw [x];exact c
     ·exact NE.o i (by omega)
    have t1:(k j == q)=false:=by simpa using c
    generalize k j=kj at d1 t1;clear hk dY d2 d3 c NE;go_wp2_with fail;go_roundg (n-(j+1))
    case measure=>omega
    case rel=>exact ⟨j+1,by go_num,by omega,Nat.le_refl _,N2,G⟩
  ·have ej:j=n:=by omega
   subst ej;have r:=NO.o NE.o;simp only [Prod.mk.injEq] at r;obtain ⟨rfl,rfl⟩:=r;clear hk qW NO;go_wp2_with fail;have hb:w.heap.size<=bb:=Nat.le_of_eq BB.o;have gg:Gw w wS:=((Gw.refl w).alloc _ _).trans G.o
   first
    | exact bodyPost_ret (v:=.tuple #[.agg #[By 0,By 0,.bool false],.bool false]) (by simp [results,results135,go_sem,x0,x1,x2]) rfl ⟨rfl,((gg.setCell hb _).setCell hb _).setCell hb _⟩
    | exact bodyPost_ret (v:=.tuple #[.agg #[By 0,By 0,.bool false],.bool false]) (by simp [results,results135,go_sem,x0,x1,x2]) rfl ⟨rfl,gg⟩
end Go.Proofs.YtcboobmfnmgldaaGreat
