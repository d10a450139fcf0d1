/- The document's layer 11: a run in memory, and what it is asked. -/
import Derived.Test.YtpoohadckhphpaaGreatBPZa
import Derived.Test.YtpoohadckhphpaaGreatBPE3
set_option linter.unusedVariables false
set_option maxHeartbeats 4000000
set_option maxRecDepth 10000
open Go.Proofs.Tryz
namespace Go.Proofs.YtpoohadckhphpaaGreat
open Go.RowKit
attribute [local go_sem] run_store_float
abbrev entV (k v:Int) (g:Bool):Value:=.agg #[.int .u64 k,.int .u64 v,.bool g]
def atV (k v:Nat->Int) (g:Nat->Bool) (n:Nat) (i:Int):Value×Int:=if 0<=i/\i<n then (entV (k i.toNat) (v i.toNat) (g i.toNat),0) else (entV 0 0 false,1)
def getV (k v:Nat->Int) (g:Nat->Bool) (n:Nat) (q:Int):Value×Bool:=if cntb k q n<n/\k (cntb k q n)=q then (entV (k (cntb k q n)) (v (cntb k q n)) (g (cntb k q n)),true) else (entV 0 0 false,false)
theorem ES.kept {u w:World} {eo:Option Addr} {n:Nat} {k v:Nat->Int} {g:Nat->Bool} {base:Nat} (h:ES u eo n k v g) (hb:∀ a,eo=some a->base<=a.block) (hs:u.heap.size<=w.heap.size) (hk:∀ q,base<=q->q<u.heap.size->w.heap[q]?=u.heap[q]?):ES w eo n k v g:=by
 refine ⟨fun hn=>?_,h.bd⟩
 obtain ⟨b,off,e,hb',hc⟩:=h.cells hn;have bb:base<=b:=hb _ e;have eq:∀ o,w.cell? ⟨b,o,none⟩=u.cell? ⟨b,o,none⟩:=fun o=>World.cell?_of_block (a:=⟨b,o,none⟩) (hk b bb hb')
 exact ⟨b,off,e,by omega,fun i hi=>⟨(eq _).trans (hc i hi).1,(eq _).trans (hc i hi).2.1,(eq _).trans (hc i hi).2.2⟩⟩
structure HDoc (w:World) (p:Nat) (S:Nat->Prop) (eps:Int) (k v:Nat->Int) (g:Nat->Bool) (n:Nat) (L:List (List Sg)):Prop where
 lies:∃ (u:World) (base:Nat) (eo:Option Addr) (ec:Nat) (lo:Option Addr) (lc:Nat),(∀ q,S q↔base<=q/\q<u.heap.size)/\u.heap.size<=w.heap.size/\(∀ q,base<=q->q<u.heap.size->w.heap[q]?=u.heap[q]?)/\u.heap[p]?=some (.cells #[.slice eo n ec,.int .i64 eps,.slice lo L.length lc] 118 (0,0))/\base<=p/\ES u eo n k v g/\(∀ a,eo=some a->base<=a.block)/\VSf u base lo L/\n<=ec/\(eo=none->n=0/\ec=0)
 n1:n<=2000000
 sh:Short L
section
variable {w:World} {p:Nat} {S:Nat->Prop} {eps:Int} {k v:Nat->Int} {g:Nat->Bool} {n:Nat} {L:List (List Sg)}
theorem HDoc.lt (h:HDoc w p S eps k v g n L):∀ q,S q->q<w.heap.size:=by
 obtain ⟨u,base,ko,kc,lo,lc,h1,h2,_⟩:=h.lies;intro q hq;have:=(h1 q).1 hq;omega
theorem HDoc.keep {w':World} (h:HDoc w p S eps k v g n L) (kk:∀ q,S q->w'.heap[q]?=w.heap[q]?):HDoc w' p S eps k v g n L:=by
 obtain ⟨u,base,ko,kc,lo,lc,h1,h2,h3,h4,h5,h6⟩:=h.lies;have pu:p<u.heap.size:=(Array.getElem?_eq_some_iff.1 h4).1;refine ⟨⟨u,base,ko,kc,lo,lc,h1,?_,fun q a b=>(kk q ((h1 q).2 ⟨a,b⟩)).trans (h3 q a b),h4,h5,h6⟩,h.n1,h.sh⟩
 have e:=kk (u.heap.size-1) ((h1 _).2 ⟨by omega,by omega⟩)
 rw [Array.getElem?_eq_getElem (show u.heap.size-1<w.heap.size by omega)] at e
 have:=(Array.getElem?_eq_some_iff.1 e).1
 omega
theorem HDoc.gw {w':World} (h:HDoc w p S eps k v g n L) (gg:Gw w w'):HDoc w' p S eps k v g n L:=h.keep fun q hq=>gg.below.block q (h.lt q hq)
theorem HDoc.opened (h:HDoc w p S eps k v g n L):∃ eo ec lo lc,w.heap[p]?=some (.cells #[.slice eo n ec,.int .i64 eps,.slice lo L.length lc] 118 (0,0))/\ES w eo n k v g/\VS w lo L:=by
 obtain ⟨u,base,ko,kc,lo,lc,h1,h2,h3,h4,h5,h6,h7,h8,_⟩:=h.lies;have pu:p<u.heap.size:=(Array.getElem?_eq_some_iff.1 h4).1;exact ⟨ko,kc,lo,lc,(h3 p h5 pu).trans h4,h6.kept h7 h2 h3,(h8.keep (fun q a b=>h3 q a b) h2).vs⟩
end
theorem dc_cells {w:World} {p:Nat} {a b c:Value} {t:TypeId} (h:w.heap[p]?=some (.cells #[a,b,c] t (0,0))):w.cell? ⟨p,0,none⟩=some a/\w.cell? ⟨p,1,none⟩=some b/\w.cell? ⟨p,2,none⟩=some c:=by
 refine ⟨?_,?_,?_⟩<;>simp [World.cell?,h]
theorem dc_get {w:World} {p:Nat} {S:Nat->Prop} {eps:Int} {k v:Nat->Int} {g:Nat->Bool} {n:Nat} {L:List (List Sg)} (h:HDoc w p S eps k v g n L) (up:Up k n) (q:Int) :
  Calls prog 161 #[.pointer (some ⟨p,0,none⟩),.int .u64 q] w fun e w'=>e=.returned (.tuple #[(getV k v g n q).1,.bool (getV k v g n q).2])/\Gw w w':=by
 have HD:Aside _:=h;have hn:=h.n1;have YES:Aside (∀ j,j<n->k j=q->getV k v g n q=(entV (k j) (v j) (g j),true)):=fun j hj e=>by
  obtain ⟨a,b⟩:=cntb_up up q n (Nat.le_refl _);have c1:cntb k q n<=j:=by
   rcases Nat.lt_or_ge j (cntb k q n) with x | x
   ·have:=a j x;omega
   ·exact x
  have c2:cntb k q n=j:=by
   rcases Nat.lt_or_ge (cntb k q n) j with x | x
   ·have x1:=b (cntb k q n) (Nat.le_refl _) (by omega)
    have x2:=up.lt x hj;omega
   ·omega
  unfold getV;rw [c2,if_pos ⟨hj,e⟩]
 have NO:Aside ((∀ j,j<n->k j≠q)->getV k v g n q=(entV 0 0 false,false)):=fun x=>by
  unfold getV;rw [if_neg (fun y=>x _ y.1 y.2)]
 obtain ⟨⟨V,B⟩,hV⟩:∃ r,getV k v g n q=r:=⟨_,rfl⟩;rw [hV] at YES NO ⊢;clear h hV up;go_enter func161,ntmps161;go_wp2_with fail;obtain ⟨bb,hbb⟩:∃ bb,w.heap.size=bb:=⟨_,rfl⟩;have BB:Aside _:=hbb;rw [hbb];clear hbb;go_loopg [6] n (fun gg s5 wr=>∃ j:Nat,s5=.int .i64 (j:Int)/\j<=n/\n-j<=gg/\Aside (∀ i,i<j->k i≠q)/\Aside (Gw (w.alloc (.cells #[.int .u64 0,.int .u64 0,.bool false] 81)) wr))
 case atStart=>exact ⟨0,rfl,Nat.zero_le _,by omega,(show Aside _ from fun i hi=>by omega),(show Aside _ from Gw.refl _)⟩
 case round =>
  obtain ⟨j,rfl,a1,a2,NE,G⟩:=hrel;obtain ⟨wS,hwS⟩:∃ wx,wx=wr:=⟨_,rfl⟩;subst hwS;obtain ⟨eo,ec,lo,lc,h1,hk,hv⟩:=(HD.out.gw (((Gw.refl w).alloc _ _).trans G.out)).opened;obtain ⟨c0,c1,c2⟩:=dc_cells h1;have pl:p<wS.heap.size:=(Array.getElem?_eq_some_iff.1 h1).1;have bx:wS.heap[bb]?=some (.cells #[.int .u64 0,.int .u64 0,.bool false] 81 (0,0)):=by rw [<-BB.out];exact (G.out.below.block _ (by simp)).trans (heap_alloc_new w _)
  obtain ⟨x0,x1,x2⟩:=dc_cells bx;have z0:wS.frozen? ⟨bb,0,none⟩=false:=by simp [World.frozen?,bx]
  have z1:wS.frozen? ⟨bb,1,none⟩=false:=by simp [World.frozen?,bx]
  have z2:wS.frozen? ⟨bb,2,none⟩=false:=by simp [World.frozen?,bx]
  have zb:bb<wS.heap.size:=(Array.getElem?_eq_some_iff.1 bx).1;clear h1 hv c1 c2 bx;by_cases hlt:j<n
  ·obtain ⟨kb,ko,rfl,hkb,hkc⟩:=hk.cells (by omega)
   obtain ⟨d1,d2,d3⟩:=hkc j hlt;have jl':(j:Int)<(n:Int):=by omega
   by_cases c:k j=q
   ·have R:Aside ((V,B)=(entV (k j) (v j) (g j),true)):=YES.out j hlt c
    have t1:(k j == q)=true:=by simpa using c
    generalize k j=kj at d1 t1 R;generalize v j=vj at d2 R;generalize g j=gj at d3 R;clear hk hkc c;have r:=R.out;simp only [Prod.mk.injEq] at r;obtain ⟨rfl,rfl⟩:=r;clear R YES NO;go_wp2_with fail;have hb:w.heap.size<=bb:=Nat.le_of_eq BB.out;have gg:Gw w wS:=((Gw.refl w).alloc _ _).trans G.out;exact bodyPost_ret (v:=.tuple #[.agg #[.int .u64 kj,.int .u64 vj,.bool gj],.bool true]) (by simp [results,results161,go_sem,x0,x1,x2]) rfl ⟨rfl,((gg.setCell hb _).setCell hb _).setCell hb _⟩
   ·have N2:Aside (∀ i,i<j+1->k i≠q):=fun i hi=>by
     by_cases x:i=j
     ·rw [x];exact c
     ·exact NE.out i (by omega)
    have t1:(k j == q)=false:=by simpa using c
    generalize k j=kj at d1 t1;clear hk hkc d2 d3 c NE;go_wp2_with fail;go_roundg (n-(j+1))
    case measure=>omega
    case rel=>exact ⟨j+1,by go_num,by omega,Nat.le_refl _,N2,G⟩
  ·have ej:j=n:=by omega
   subst ej;have r:=NO.out NE.out;simp only [Prod.mk.injEq] at r;obtain ⟨rfl,rfl⟩:=r;clear hk YES NO;go_wp2_with fail;have hb:w.heap.size<=bb:=Nat.le_of_eq BB.out;have gg:Gw w wS:=((Gw.refl w).alloc _ _).trans G.out
   first
    | exact bodyPost_ret (v:=.tuple #[.agg #[.int .u64 0,.int .u64 0,.bool false],.bool false]) (by simp [results,results161,go_sem,x0,x1,x2]) rfl ⟨rfl,((gg.setCell hb _).setCell hb _).setCell hb _⟩
    | exact bodyPost_ret (v:=.tuple #[.agg #[.int .u64 0,.int .u64 0,.bool false],.bool false]) (by simp [results,results161,go_sem,x0,x1,x2]) rfl ⟨rfl,gg⟩
end Go.Proofs.YtpoohadckhphpaaGreat
