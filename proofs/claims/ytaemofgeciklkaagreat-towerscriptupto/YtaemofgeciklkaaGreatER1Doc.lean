import Derived.Test.YtaemofgeciklkaaGreatEPZa
import Derived.Test.YtaemofgeciklkaaGreatEPE3
set_option linter.unusedVariables false
set_option maxHeartbeats 4000000
set_option maxRecDepth 10000
open Go.Proofs.Tryz
namespace Go.Proofs.YtaemofgeciklkaaGreat
open Go.RowKit
attribute [local go_sem] iV
abbrev oB (k v:Int) (g:Bool):Value:=.agg #[BY k,BY v,.bool g]
def tD (k v:Nat->Int) (g:Nat->Bool) (n:Nat) (i:Int):Value×Int:=if 0<=i/\i<n then (oB (k i.toNat) (v i.toNat) (g i.toNat),0) else (oB 0 0 false,1)
def jZ (k v:Nat->Int) (g:Nat->Bool) (n:Nat) (q:Int):Value×Bool:=if aB k q n<n/\k (aB k q n)=q then (oB (k (aB k q n)) (v (aB k q n)) (g (aB k q n)),true) else (oB 0 0 false,false)
variable {w:World}
theorem ES.kept {u:World} {eo:Option Addr} {n:Nat} {k v:Nat->Int} {g:Nat->Bool} {base:Nat} (h:ES u eo n k v g) (hb:∀ a,eo=some a->base<=a.block) (hs:u.heap.size<=w.heap.size) (hk:∀ q,base<=q->q<u.heap.size->w.heap[q]?=u.heap[q]?):ES w eo n k v g:=by
 refine ⟨fun hn=>?_,h.bd⟩
 obtain ⟨b,off,e,eQ,hc⟩:=h.cells hn;have bb:base<=b:=hb _ e;have eq:∀ o,w.cell? (φ b o)=u.cell? (φ b o):=fun o=>qba (a:=⟨b,o,none⟩) (hk b bb eQ)
 exact ⟨b,off,e,ω,fun i hi=>⟨(eq _).trans (hc i hi).1,(eq _).trans (hc i hi).2.1,(eq _).trans (hc i hi).2.2⟩⟩
structure ba (w:World) (p:Nat) (S:Nat->Prop) (eps:Int) (k v:Nat->Int) (g:Nat->Bool) (n:Nat) (L:List (List Sg)):Prop where
 lies:∃ (u:World) (base:Nat) (eo:Option Addr) (ec:Nat) (lo:Option Addr) (lc:Nat),(∀ q,S q↔base<=q/\q<u.heap.size)/\u.heap.size<=w.heap.size/\(∀ q,base<=q->q<u.heap.size->w.heap[q]?=u.heap[q]?)/\u.heap[p]?=some (.cells #[.slice eo n ec,By eps,.slice lo L.length lc] 105 (0,0))/\base<=p/\ES u eo n k v g/\(∀ a,eo=some a->base<=a.block)/\iG u base lo L/\n<=ec/\(eo=none->n=0/\ec=0)
 n1:n<=2000000
 sh:ou L
section
variable {w:World} {p:Nat} {S:Nat->Prop} {eps:Int} {k v:Nat->Int} {g:Nat->Bool} {n:Nat} {L:List (List Sg)}
theorem ba.lt (h:ba w p S eps k v g n L):∀ q,S q->q<w.heap.size:=by obtain ⟨u,base,ko,kc,lo,lc,h1,h2,_⟩:=h.lies;intro q hq;have:=(h1 q).1 hq;omega
theorem ba.keep {w':World} (h:ba w p S eps k v g n L) (kk:∀ q,S q->w'.heap[q]?=w.heap[q]?):ba w' p S eps k v g n L:=by
 obtain ⟨u,base,ko,kc,lo,lc,h1,h2,h3,h4,h5,h6⟩:=h.lies;have pu:p<u.heap.size:=(qab.1 h4).1;refine ⟨⟨u,base,ko,kc,lo,lc,h1,?_,fun q a b=>(kk q ((h1 q).2 ⟨a,b⟩)).trans (h3 q a b),h4,h5,h6⟩,h.n1,h.sh⟩
 have e:=kk (u.heap.size-1) ((h1 _).2 ⟨ω,ω⟩);rw [Array.getElem?_eq_getElem (show u.heap.size-1<w.heap.size by omega)] at e
 have:=(qab.1 e).1
 omega
theorem ba.gw {w':World} (h:ba w p S eps k v g n L) (gg:Gw w w'):ba w' p S eps k v g n L:=h.keep fun q hq=>gg.below.block q (h.lt q hq)
theorem ba.opened (h:ba w p S eps k v g n L):∃ eo ec lo lc,w.heap[p]?=some (.cells #[.slice eo n ec,By eps,.slice lo L.length lc] 105 (0,0))/\ES w eo n k v g/\VS w lo L:=by obtain ⟨u,base,ko,kc,lo,lc,h1,h2,h3,h4,h5,h6,h7,h8,_⟩:=h.lies;have pu:p<u.heap.size:=(qab.1 h4).1;exact ⟨ko,kc,lo,lc,(h3 p h5 pu).trans h4,h6.kept h7 h2 h3,(h8.keep (fun q a b=>h3 q a b) h2).vs⟩
end
variable {w:World}
theorem tE {p:Nat} {a b c:Value} {t:TypeId} (h:w.heap[p]?=some (.cells #[a,b,c] t (0,0))):w.cell? (φ p 0)=some a/\w.cell? (φ p 1)=some b/\w.cell? (φ p 2)=some c:=by refine ⟨?_,?_,?_⟩<;>simp [World.cell?,h]
theorem ack {p:Nat} {S:Nat->Prop} {eps:Int} {k v:Nat->Int} {g:Nat->Bool} {n:Nat} {L:List (List Sg)} (h:ba w p S eps k v g n L) (up:Up k n) (q:Int) :
  Calls prog 128 #[IS p,BY q] w fun e w'=>e=π #[(jZ k v g n q).1,.bool (jZ k v g n q).2]/\Gw w w':=by
 have HD:ag _:=h;have hn:=h.n1;have pK:ag (∀ j,j<n->k j=q->jZ k v g n q=(oB (k j) (v j) (g j),true)):=fun j hj e=>by
  obtain ⟨a,b⟩:=qU up q n (Yk _);have c1:aB k q n<=j:=by
   rcases qaB j (aB k q n) with x | x
   ·have:=a j x;omega
   ·exact x
  have c2:aB k q n=j:=by
   rcases qaB (aB k q n) j with x | x
   ·have x1:=b (aB k q n) (Yk _) ω
    have x2:=up.lt x hj;omega
   ·omega
  unfold jZ;rw [c2,Ym ⟨hj,e⟩]
 have NO:ag ((∀ j,j<n->k j≠q)->jZ k v g n q=(oB 0 0 false,false)):=fun x=>by unfold jZ;rw [Yl (fun y=>x _ y.1 y.2)]
 obtain ⟨⟨V,B⟩,hV⟩:∃ r,jZ k v g n q=r:=⟨_,rfl⟩;rw [hV] at pK NO ⊢;clear h hV up;go_enter func128,ntmps128;go_wp2_with fail;obtain ⟨bb,oC⟩:=qbr w.heap.size;have BB:ag _:=oC;rw [oC];clear oC;go_loopg [6] n (fun gg s5 wr=>∃ j:Nat,s5=By (j:Int)/\j<=n/\n-j<=gg/\ag (∀ i,i<j->k i≠q)/\ag (Gw (w.alloc (.cells #[BY 0,BY 0,.bool false] 71)) wr))
 case atStart=>exact ⟨0,rfl,Γ _,ω,(show ag _ from fun i hi=>ω),(show ag _ from Gw.refl _)⟩
 case round =>
  obtain ⟨j,rfl,a1,a2,NE,G⟩:=hrel;obtain ⟨wS,aS⟩:=qbs wr;subst aS;obtain ⟨eo,ec,lo,lc,h1,hk,hv⟩:=(HD.o.gw (((Gw.refl w).alloc _ _).trans G.o)).opened;obtain ⟨c0,c1,c2⟩:=tE h1;have pl:p<wS.heap.size:=(qab.1 h1).1;have bx:wS.heap[bb]?=some (.cells #[BY 0,BY 0,.bool false] 71 (0,0)):=by rw [<-BB.o];exact (G.o.below.block _ ε).trans (Ω w _)
  obtain ⟨x0,x1,x2⟩:=tE bx;have z0:wS.frozen? (φ bb 0)=false:=by simp [World.frozen?,bx]
  have z1:wS.frozen? (φ bb 1)=false:=by simp [World.frozen?,bx]
  have z2:wS.frozen? (φ bb 2)=false:=by simp [World.frozen?,bx]
  have zb:bb<wS.heap.size:=(qab.1 bx).1;clear h1 hv c1 c2 bx;by_cases ar:j<n
  ·obtain ⟨kb,ko,rfl,iq,di⟩:=hk.cells ω
   obtain ⟨d1,d2,d3⟩:=di j ar;have vG:(j:Int)<(n:Int):=ω;by_cases c:k j=q
   ·have R:ag ((V,B)=(oB (k j) (v j) (g j),true)):=pK.o j ar c
    have t1:(k j == q)=true:=(by simpa using c);generalize k j=kj at d1 t1 R;generalize v j=vj at d2 R;generalize g j=gj at d3 R;clear hk di c;have r:=R.o;simp only [Prod.mk.injEq] at r;obtain ⟨rfl,rfl⟩:=r;clear R pK NO;go_wp2_with fail;have hb:w.heap.size<=bb:=qad BB.o;have gg:Gw w wS:=((Gw.refl w).alloc _ _).trans G.o;exact bodyPost_ret (v:=.tuple #[.agg #[BY kj,BY vj,.bool gj],.bool true]) (by simp [results,results128,go_sem,x0,x1,x2]) rfl ⟨rfl,((gg.setCell hb _).setCell hb _).setCell hb _⟩
   ·have N2:ag (∀ i,i<j+1->k i≠q):=fun i hi=>by
     by_cases x:i=j
     ·rw [x];exact c
     ·exact NE.o i ω
    have t1:(k j == q)=false:=(by simpa using c);generalize k j=kj at d1 t1;clear hk di d2 d3 c NE;go_wp2_with fail;go_roundg (n-(j+1))
    case measure=>omega
    case rel=>exact ⟨j+1,by go_num,ω,Yk _,N2,G⟩
  ·have ej:j=n:=(by omega);subst ej;have r:=NO.o NE.o;simp only [Prod.mk.injEq] at r;obtain ⟨rfl,rfl⟩:=r;clear hk pK NO;go_wp2_with fail;have hb:w.heap.size<=bb:=qad BB.o;have gg:Gw w wS:=((Gw.refl w).alloc _ _).trans G.o
   first
    | exact bodyPost_ret (v:=.tuple #[.agg #[BY 0,BY 0,.bool false],.bool false]) (by simp [results,results128,go_sem,x0,x1,x2]) rfl ⟨rfl,((gg.setCell hb _).setCell hb _).setCell hb _⟩
    | exact bodyPost_ret (v:=.tuple #[.agg #[BY 0,BY 0,.bool false],.bool false]) (by simp [results,results128,go_sem,x0,x1,x2]) rfl ⟨rfl,gg⟩
