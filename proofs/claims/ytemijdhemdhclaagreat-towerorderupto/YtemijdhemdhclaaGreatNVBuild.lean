/- The document's Build of layer 8. -/
import Derived.Maps.AppendAt
import Derived.Test.YtemijdhemdhclaaGreatNR1Doc
set_option linter.unusedVariables false
open Go.Proofs.Tryz
namespace Go.Proofs.YtemijdhemdhclaaGreat
open Go.RowKit
attribute [local go_sem] run_store_float
def VI (w:World) (base ob:Nat) (vals:List Value) (L:List (List Sg)):Prop :=
 vals.length=L.length/\∀ i,i<L.length->∃ g cap,vals[i]?=some (.slice (some ⟨g,0,none⟩) (L.getD i []).length cap)/\(L.getD i []).length<=cap/\g≠ob/\(base<=g/\g<w.heap.size)/\GS w (some ⟨g,0,none⟩) (L.getD i [])
theorem gs_blocks {w w':World} {g:Nat} {l:List Sg} (h:GS w (some ⟨g,0,none⟩) l) (hb:w'.heap[g]?=w.heap[g]?) (hs:w.heap.size<=w'.heap.size):GS w' (some ⟨g,0,none⟩) l :=
 ⟨fun h0=>by
  obtain ⟨b,off,e,hl,hc⟩:=h.cells h0;cases e;have cc:∀ o,w'.cell? ⟨g,o,none⟩=w.cell? ⟨g,o,none⟩:=fun o=>by unfold World.cell?;rw [hb]
  exact ⟨g,0,rfl,by omega,fun i hi=>⟨(cc _).trans (hc i hi).c0,(cc _).trans (hc i hi).c1,(cc _).trans (hc i hi).c2,(cc _).trans (hc i hi).c3,(cc _).trans (hc i hi).c4⟩⟩,h.ok⟩
theorem new_val (w:World) (v:Value) (t:TypeId):∀ j u,[v][j]?=some u->(w.alloc (.cells #[v] t)).cell? ((⟨w.heap.size,0,none⟩:Addr).add j)=some u:=by
 intro j u hu;have h:=heap_alloc_new w (.cells #[v] t);rw [Addr.add_lit,Nat.zero_add];simp only [World.cell?,h];simpa using hu
theorem seg_ok {eps fr:Int} {h:Nat->Int} {N:Nat} {k:Int} {s ic:Nat} {F T er:Int} (S:SegR eps fr h N k s ic F T er) (e:2<=eps/\eps<=64) (n0:0<N) (u:Up h N) (ft:FitsOn (eps-1) h (Prs N)) (f0:0<=fr) (f1:fr+N<=4294967296):er=0:=by
 have z:∀ {a b c x:Int},OfR eps h N a b c x->x=0:=fun o=>by
  rcases o with ⟨q,_⟩ | ⟨_,q,_⟩ | ⟨_,_,q,_⟩ | ⟨_,_,_,_,_,q⟩
  ·exact absurd q (by omega)
  ·exact absurd ⟨n0,u⟩ q
  ·exact absurd ft q
  ·exact q
 rcases S with ⟨a,b,c,o,ne,_⟩ | ⟨a,b,c,o,nb,_⟩ | ⟨a,b,c,o,_,_,_,_,_,_,_,q⟩
 ·exact absurd (z o) ne
 ·exact absurd ⟨f0,f1⟩ nb
 ·exact q
end Go.Proofs.YtemijdhemdhclaaGreat
namespace Go.Proofs.YtemijdhemdhclaaGreat
open Go.RowKit
def ecs (k v:Nat->Int) (g:Nat->Bool) (n:Nat):List Value:=(List.range (n*3)).map (ecell k v g)
theorem ecs_len (k v:Nat->Int) (g:Nat->Bool) (n:Nat):(ecs k v g n).length=n*3:=by simp [ecs]
theorem ecs_at (k v:Nat->Int) (g:Nat->Bool) {n j:Nat} (h:j<n*3):(ecs k v g n)[j]?=some (ecell k v g j):=by simp [ecs,h]
theorem ecs_one (k v:Nat->Int) (g:Nat->Bool) (n:Nat):∀ u∈ecs k v g n,u.oneCell'=true:=by
 intro u hu;obtain ⟨j,_,rfl⟩:=List.mem_map.1 hu;exact ecell_one k v g j
theorem es_news {w:World} {ao:Option Addr} {n:Nat} {k v:Nat->Int} {g:Nat->Bool} (h:ES w ao n k v g):∀ ad,ao=some ad->∀ j u,(ecs k v g n)[j]?=some u->w.cell? (ad.add j)=some u:=by
 intro ad e j u hu;have hj:j<n*3:=by
  have:=(List.getElem?_eq_some_iff.1 hu).1
  rwa [ecs_len] at this
 obtain ⟨b,off,e',_,hc⟩:=h.flat (by omega)
 rw [e] at e';cases e';rw [Addr.add_lit,hc j hj,<-ecs_at k v g hj];exact hu
def ER (w:World) (base:Nat) (x:Value) (k v:Nat->Int) (g:Nat->Bool) (n:Nat):Prop:=w.ownsRow base 69 3 x n (ecs k v g n)
theorem er_es {w:World} {base:Nat} {ao:Option Addr} {cap n:Nat} {k v:Nat->Int} {g:Nat->Bool} (h:ER w base (.slice ao n cap) k v g n) (bd:∀ i,i<n->(0<=k i/\k i<18446744073709551616)/\(0<=v i/\v i<18446744073709551616)):ES w ao n k v g:=by
 refine ⟨fun h0=>?_,bd⟩
 rcases h.2 with ⟨e,z⟩ | ⟨b,cap',cur,e,hb,hh,r⟩
 ·omega
 ·cases e
  have h':w.ownsRow base 69 3 (.slice (some ⟨b,0,none⟩) n cap) n (ecs k v g n):=h;have ce:∀ j,j<n*3->w.cell? ⟨b,j,none⟩=some (ecell k v g j):=fun j hj=>by
   rw [h'.cellAt j hj,ecs_at k v g hj]
  refine ⟨b,0,rfl,(Array.getElem?_eq_some_iff.1 hh).1,fun i hi=>⟨?_,?_,?_⟩⟩
  ·rw [Nat.zero_add,ce _ (by omega),ecell_0]
  ·rw [Nat.zero_add,ce _ (by omega),ecell_1]
  ·rw [Nat.zero_add,ce _ (by omega),ecell_2]
theorem er_form {w:World} {base:Nat} {x:Value} {k v:Nat->Int} {g:Nat->Bool} {n:Nat} (h:ER w base x k v g n):∃ bo c,x=.slice bo n c/\n<=c/\∀ a,bo=some a->base<=a.block/\a.block<w.heap.size:=by
 rcases h.2 with ⟨e,z⟩ | ⟨b,cap,cur,e,hb,hh,hc,_⟩
 ·exact ⟨none,0,by rw [e,z],by omega,fun a q=>by cases q⟩
 ·exact ⟨some ⟨b,0,none⟩,cap,e,hc,fun a q=>by cases q;exact ⟨hb,(Array.getElem?_eq_some_iff.1 hh).1⟩⟩
def NewE (eps:Int) (k v:Nat->Int) (g:Nat->Bool) (n:Nat) (E:Int):Prop:=(¬ (2<=eps/\eps<=64)/\E=1)\/((2<=eps/\eps<=64)/\ChkR k v g n E)
theorem NewE.one {eps:Int} {k v:Nat->Int} {g:Nat->Bool} {n:Nat} {E E':Int} (h:NewE eps k v g n E) (h':NewE eps k v g n E'):E=E':=by
 rcases h with ⟨a,rfl⟩ | ⟨a,c⟩
 ·rcases h' with ⟨_,rfl⟩ | ⟨b,_⟩
  ·rfl
  ·exact absurd b a
 ·rcases h' with ⟨b,_⟩ | ⟨_,d⟩
  ·exact absurd a b
  ·exact c.one d
def OfE (eps:Int) (k v:Nat->Int) (g:Nat->Bool) (n:Nat) (L:List (List Sg)) (E:Int):Prop:=∃ r,NewE eps k v g n r/\((r≠0/\E=r)\/(r=0/\CheckR eps k n L E))
theorem NewE.up {eps:Int} {k v:Nat->Int} {g:Nat->Bool} {n:Nat} (h:NewE eps k v g n 0):(2<=eps/\eps<=64)/\Up k n:=by
 rcases h with ⟨_,e⟩ | ⟨a,⟨_,u,_⟩ | ⟨e,_⟩ | ⟨e,_⟩⟩
 ·cases e
 ·exact ⟨a,u⟩
 ·cases e
 ·cases e
def RunOut (HR:World->Nat->(Nat->Prop)->Int->(Nat->Int)->(Nat->Int)->(Nat->Bool)->Nat->List (List Sg)->Prop) (w w':World) (ex:Ending) (eps:Int) (k v:Nat->Int) (g:Nat->Bool) (n:Nat):Prop :=
 ∃ E,NewE eps k v g n E/\((E≠0/\ex=.returned (.tuple #[.pointer none,.int .i64 E]))\/(E=0/\∃ p S L,ex=.returned (.tuple #[.pointer (some ⟨p,0,none⟩),.int .i64 0])/\(∀ q,S q->w.heap.size<=q)/\BuildR eps k n L/\HR w' p S eps k v g n L))
def OfOutR (HR:World->Nat->(Nat->Prop)->Int->(Nat->Int)->(Nat->Int)->(Nat->Bool)->Nat->List (List Sg)->Prop) (w w':World) (ex:Ending) (eps:Int) (k v:Nat->Int) (g:Nat->Bool) (n:Nat) (L:List (List Sg)):Prop :=
 ∃ E,OfE eps k v g n L E/\((E≠0/\ex=.returned (.tuple #[.pointer none,.int .i64 E]))\/(E=0/\∃ p S,ex=.returned (.tuple #[.pointer (some ⟨p,0,none⟩),.int .i64 0])/\(∀ q,S q->w.heap.size<=q)/\HR w' p S eps k v g n L))
theorem BuildR.fine {eps:Int} {f:Nat->Int} {n:Nat} {L:List (List Sg)} (e0:2<=eps) (n1:n<=2000000) (bd:∀ t,t<n->0<=f t/\f t<18446744073709551616) (u:Up f n) (b:BuildR eps f n L):Short L:=by
 refine ⟨?_,fun i hi=>by have:=b.short n1 bd u i hi;omega⟩
 have a:=b.low e0 n1 bd u;have c:=hgt_le (e:=eps.toNat) (by omega) n
 omega
structure RunC (HR:World->Nat->(Nat->Prop)->Int->(Nat->Int)->(Nat->Int)->(Nat->Bool)->Nat->List (List Sg)->Prop):Prop where
 keep:∀ {w w':World} {p:Nat} {S:Nat->Prop} {eps:Int} {k v:Nat->Int} {g:Nat->Bool} {n:Nat} {L:List (List Sg)},HR w p S eps k v g n L->(∀ q,S q->w'.heap[q]?=w.heap[q]?)->HR w' p S eps k v g n L
 lt:∀ {w:World} {p:Nat} {S:Nat->Prop} {eps:Int} {k v:Nat->Int} {g:Nat->Bool} {n:Nat} {L:List (List Sg)},HR w p S eps k v g n L->∀ q,S q->q<w.heap.size
 own:∀ {w:World} {p:Nat} {S:Nat->Prop} {eps:Int} {k v:Nat->Int} {g:Nat->Bool} {n:Nat} {L:List (List Sg)},HR w p S eps k v g n L->S p
 ready:∀ {w:World} {p:Nat} {S:Nat->Prop} {eps:Int} {k v:Nat->Int} {g:Nat->Bool} {n:Nat} {L:List (List Sg)},HR w p S eps k v g n L->Ready eps k n L
 pile:∀ {w:World} {p:Nat} {S:Nat->Prop} {eps:Int} {k v:Nat->Int} {g:Nat->Bool} {n:Nat} {L:List (List Sg)},HR w p S eps k v g n L->∃ pp Sp,w.cell? ⟨p,0,none⟩=some (.pointer (some ⟨pp,0,none⟩))/\HPile w pp Sp eps k n L/\∀ q,Sp q->S q
 new:∀ (eps:Int) (ao:Option Addr) (n cp:Nat) (k v:Nat->Int) (g:Nat->Bool),-9223372036854775808<=eps->eps<9223372036854775808->n<=2000000->n<=cp->(ao=none->n=0/\cp=0)->∀ w:World,ES w ao n k v g->Calls prog 86 #[.slice ao n cp,.int .i64 eps] w fun ex w'=>RunOut HR w w' ex eps k v g n/\Gw w w'
 len:∀ {w:World} {p:Nat} {S:Nat->Prop} {eps:Int} {k v:Nat->Int} {g:Nat->Bool} {n:Nat} {L:List (List Sg)},HR w p S eps k v g n L->Calls prog 48 #[.pointer (some ⟨p,0,none⟩)] w fun e w'=>e=.returned (.int .i64 (n:Int))/\Gw w w'
 at_:∀ {w:World} {p:Nat} {S:Nat->Prop} {eps:Int} {k v:Nat->Int} {g:Nat->Bool} {n:Nat} {L:List (List Sg)},HR w p S eps k v g n L->∀ i:Int,-9223372036854775808<=i->i<9223372036854775808->Calls prog 87 #[.pointer (some ⟨p,0,none⟩),.int .i64 i] w fun e w'=>e=.returned (.tuple #[(atV k v g n i).1,.int .i64 (atV k v g n i).2])/\Gw w w'
 list:∀ {w:World} {p:Nat} {S:Nat->Prop} {eps:Int} {k v:Nat->Int} {g:Nat->Bool} {n:Nat} {L:List (List Sg)},HR w p S eps k v g n L->Calls prog 58 #[.pointer (some ⟨p,0,none⟩)] w fun e w'=>(∃ bo c,e=.returned (.slice bo n c)/\ER w' w.heap.size (.slice bo n c) k v g n)/\Gw w w'
 get:∀ {w:World} {p:Nat} {S:Nat->Prop} {eps:Int} {k v:Nat->Int} {g:Nat->Bool} {n:Nat} {L:List (List Sg)},HR w p S eps k v g n L->∀ q:Int,0<=q->q<18446744073709551616->Calls prog 81 #[.pointer (some ⟨p,0,none⟩),.int .u64 q] w fun e w'=>e=.returned (.tuple #[(getV k v g n q).1,.bool (getV k v g n q).2])/\Gw w w'
end Go.Proofs.YtemijdhemdhclaaGreat
