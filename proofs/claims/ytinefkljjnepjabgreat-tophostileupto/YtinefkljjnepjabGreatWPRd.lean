/- The document's layer 11: a run in memory, and what it is asked. -/
import Derived.Deep.RegionHeld3
import Derived.Laws.StructEq
import Derived.Test.YtinefkljjnepjabGreatWVCheck
import Derived.Test.YtinefkljjnepjabGreatWPVo
import Derived.Test.YtinefkljjnepjabGreatWR4Fit
import Derived.Test.YtinefkljjnepjabGreatWPZa
import Derived.Test.YtinefkljjnepjabGreatWPE3
import Derived.Test.YtinefkljjnepjabGreatWPZi
namespace Go.Proofs.YtinefkljjnepjabGreat
open Go.RowKit
set_option linter.unusedVariables false
attribute [local go_sem] run_store_float
abbrev entV (k v:Int) (g:Bool):Value:=.agg #[.int .u64 k, .int .u64 v, .bool g]
def atV (k v:Nat→Int) (g:Nat→Bool) (n:Nat) (i:Int):Value×Int:=if 0≤i∧i<n then (entV (k i.toNat) (v i.toNat) (g i.toNat),0) else (entV 0 0 false,1)
def getV (k v:Nat→Int) (g:Nat→Bool) (n:Nat) (q:Int):Value×Bool:=if cntb k q n<n∧k (cntb k q n)=q then (entV (k (cntb k q n)) (v (cntb k q n)) (g (cntb k q n)),true) else (entV 0 0 false,false)
theorem ES.kept {u w:World} {eo:Option Addr} {n:Nat} {k v:Nat→Int} {g:Nat→Bool} {base:Nat} (h:ES u eo n k v g) (hb:∀ a,eo=some a→base≤a.block) (hs:u.heap.size≤w.heap.size) (hk:∀ q,base≤q→q<u.heap.size→w.heap[q]?=u.heap[q]?):ES w eo n k v g:=by
 refine ⟨fun hn=>?_,h.bd⟩
 obtain ⟨b,off,e,hb',hc⟩:=h.cells hn
 have bb:base≤b:=hb _ e
 have eq:∀ o,w.cell? ⟨b,o,none⟩=u.cell? ⟨b,o,none⟩:=fun o=>World.cell?_of_block (a:=⟨b,o,none⟩) (hk b bb hb')
 exact ⟨b,off,e,by omega,fun i hi=>⟨(eq _).trans (hc i hi).1,(eq _).trans (hc i hi).2.1,(eq _).trans (hc i hi).2.2⟩⟩
structure HDoc (w:World) (p:Nat) (S:Nat→Prop) (eps:Int) (k v:Nat→Int) (g:Nat→Bool) (n:Nat) (L:List (List Sg)):Prop where
 lies:∃ (u:World) (base:Nat) (eo:Option Addr) (ec:Nat) (lo:Option Addr) (lc:Nat),(∀ q,S q↔base≤q∧q<u.heap.size)∧u.heap.size≤w.heap.size∧(∀ q,base≤q→q<u.heap.size→w.heap[q]?=u.heap[q]?)∧u.heap[p]?=some (.cells #[.slice eo n ec, .int .i64 eps, .slice lo L.length lc] 120 (0,0))∧base≤p∧ES u eo n k v g∧(∀ a,eo=some a→base≤a.block)∧VSf u base lo L
 n1:n≤2000000
 sh:Short L
section
variable {w:World} {p:Nat} {S:Nat→Prop} {eps:Int} {k v:Nat→Int} {g:Nat→Bool} {n:Nat} {L:List (List Sg)}
theorem HDoc.lt (h:HDoc w p S eps k v g n L):∀ q,S q→q<w.heap.size:=by
 obtain ⟨u,base,ko,kc,lo,lc,h1,h2,_⟩:=h.lies
 intro q hq
 have:=(h1 q).1 hq
 omega
theorem HDoc.keep {w':World} (h:HDoc w p S eps k v g n L) (kk:∀ q,S q→w'.heap[q]?=w.heap[q]?):HDoc w' p S eps k v g n L:=by
 obtain ⟨u,base,ko,kc,lo,lc,h1,h2,h3,h4,h5,h6⟩:=h.lies
 have pu:p<u.heap.size:=(Array.getElem?_eq_some_iff.1 h4).1
 refine ⟨⟨u,base,ko,kc,lo,lc,h1,?_,fun q a b=>(kk q ((h1 q).2 ⟨a,b⟩)).trans (h3 q a b),h4,h5,h6⟩,h.n1,h.sh⟩
 have e:=kk (u.heap.size-1) ((h1 _).2 ⟨by omega,by omega⟩)
 rw [Array.getElem?_eq_getElem (show u.heap.size-1<w.heap.size by omega)] at e
 have:=(Array.getElem?_eq_some_iff.1 e).1
 omega
theorem HDoc.gw {w':World} (h:HDoc w p S eps k v g n L) (gg:Gw w w'):HDoc w' p S eps k v g n L:=h.keep fun q hq=>gg.below.block q (h.lt q hq)
theorem HDoc.opened (h:HDoc w p S eps k v g n L):∃ eo ec lo lc,w.heap[p]?=some (.cells #[.slice eo n ec, .int .i64 eps, .slice lo L.length lc] 120 (0,0))∧ES w eo n k v g∧VS w lo L:=by
 obtain ⟨u,base,ko,kc,lo,lc,h1,h2,h3,h4,h5,h6,h7,h8⟩:=h.lies
 have pu:p<u.heap.size:=(Array.getElem?_eq_some_iff.1 h4).1
 exact ⟨ko,kc,lo,lc,(h3 p h5 pu).trans h4,h6.kept h7 h2 h3,(h8.keep (fun q a b=>h3 q a b) h2).vs⟩
end
end Go.Proofs.YtinefkljjnepjabGreat
namespace Go.Proofs.YtinefkljjnepjabGreat
open Go.RowKit
set_option linter.unusedVariables false
attribute [local go_sem] run_store_float
end Go.Proofs.YtinefkljjnepjabGreat
namespace Go.Proofs.YtinefkljjnepjabGreat
open Go.RowKit
set_option linter.unusedVariables false
def ecs (k v:Nat→Int) (g:Nat→Bool) (n:Nat):List Value:=(List.range (n*3)).map (ecell k v g)
theorem ecs_len (k v:Nat→Int) (g:Nat→Bool) (n:Nat):(ecs k v g n).length=n*3:=by simp [ecs]
theorem ecs_at (k v:Nat→Int) (g:Nat→Bool) {n j:Nat} (h:j<n*3):(ecs k v g n)[j]?=some (ecell k v g j):=by simp [ecs,h]
theorem ecs_one (k v:Nat→Int) (g:Nat→Bool) (n:Nat):∀ u∈ecs k v g n,u.oneCell'=true:=by
 intro u hu
 obtain ⟨j,_,rfl⟩:=List.mem_map.1 hu
 exact ecell_one k v g j
theorem es_news {w:World} {ao:Option Addr} {n:Nat} {k v:Nat→Int} {g:Nat→Bool} (h:ES w ao n k v g):∀ ad,ao=some ad→∀ j u,(ecs k v g n)[j]?=some u→w.cell? (ad.add j)=some u:=by
 intro ad e j u hu
 have hj:j<n*3:=by
  have:=(List.getElem?_eq_some_iff.1 hu).1
  rwa [ecs_len] at this
 obtain ⟨b,off,e',_,hc⟩:=h.flat (by omega)
 rw [e] at e'
 cases e'
 rw [Addr.add_lit,hc j hj,←ecs_at k v g hj]
 exact hu
def ER (w:World) (base:Nat) (x:Value) (k v:Nat→Int) (g:Nat→Bool) (n:Nat):Prop:=w.ownsRow base 39 3 x n (ecs k v g n)
theorem er_es {w:World} {base:Nat} {ao:Option Addr} {cap n:Nat} {k v:Nat→Int} {g:Nat→Bool} (h:ER w base (.slice ao n cap) k v g n) (bd:∀ i,i<n→(0≤k i∧k i<18446744073709551616)∧(0≤v i∧v i<18446744073709551616)):ES w ao n k v g:=by
 refine ⟨fun h0=>?_,bd⟩
 rcases h.2 with ⟨e,z⟩ | ⟨b,cap',cur,e,hb,hh,r⟩
 ·omega
 ·cases e
  have h':w.ownsRow base 39 3 (.slice (some ⟨b,0,none⟩) n cap) n (ecs k v g n):=h
  have ce:∀ j,j<n*3→w.cell? ⟨b,j,none⟩=some (ecell k v g j):=fun j hj=>by
   rw [h'.cellAt j hj,ecs_at k v g hj]
  refine ⟨b,0,rfl,(Array.getElem?_eq_some_iff.1 hh).1,fun i hi=>⟨?_,?_,?_⟩⟩
  ·rw [Nat.zero_add,ce _ (by omega),ecell_0]
  ·rw [Nat.zero_add,ce _ (by omega),ecell_1]
  ·rw [Nat.zero_add,ce _ (by omega),ecell_2]
theorem er_form {w:World} {base:Nat} {x:Value} {k v:Nat→Int} {g:Nat→Bool} {n:Nat} (h:ER w base x k v g n):∃ bo c,x=.slice bo n c∧n≤c∧∀ a,bo=some a→base≤a.block∧a.block<w.heap.size:=by
 rcases h.2 with ⟨e,z⟩ | ⟨b,cap,cur,e,hb,hh,hc,_⟩
 ·exact ⟨none,0,by rw [e,z],by omega,fun a q=>by cases q⟩
 ·exact ⟨some ⟨b,0,none⟩,cap,e,hc,fun a q=>by cases q;exact ⟨hb,(Array.getElem?_eq_some_iff.1 hh).1⟩⟩
theorem VSf.low {w:World} {base base':Nat} {ao:Option Addr} {L:List (List Sg)} (h:VSf w base ao L) (hb:base'≤base):VSf w base' ao L :=
 ⟨fun h0=>by
  obtain ⟨b,off,e,x,hc⟩:=h.cells h0
  refine ⟨b,off,e,⟨Nat.le_trans hb x.1,x.2⟩,fun i hi=>?_⟩
  obtain ⟨bo,c,y1,y2,y3,y4,y5⟩:=hc i hi
  exact ⟨bo,c,y1,y2,y3,y4,fun a ea=>⟨Nat.le_trans hb (y5 a ea).1,(y5 a ea).2⟩⟩⟩
def NewE (eps:Int) (k v:Nat→Int) (g:Nat→Bool) (n:Nat) (E:Int):Prop:=(¬ (2≤eps∧eps≤64)∧E=1)∨((2≤eps∧eps≤64)∧ChkR k v g n E)
theorem NewE.one {eps:Int} {k v:Nat→Int} {g:Nat→Bool} {n:Nat} {E E':Int} (h:NewE eps k v g n E) (h':NewE eps k v g n E'):E=E':=by
 rcases h with ⟨a,rfl⟩ | ⟨a,c⟩
 ·rcases h' with ⟨_,rfl⟩ | ⟨b,_⟩
  ·rfl
  ·exact absurd b a
 ·rcases h' with ⟨b,_⟩ | ⟨_,d⟩
  ·exact absurd a b
  ·exact c.one d
def OfE (eps:Int) (k v:Nat→Int) (g:Nat→Bool) (n:Nat) (L:List (List Sg)) (E:Int):Prop:=∃ r,NewE eps k v g n r∧((r≠0∧E=r)∨(r=0∧CheckR eps k n L E))
theorem OfE.one {eps:Int} {k v:Nat→Int} {g:Nat→Bool} {n:Nat} {L:List (List Sg)} {E E':Int} (h:OfE eps k v g n L E) (h':OfE eps k v g n L E'):E=E':=by
 obtain ⟨r,a,b⟩:=h
 obtain ⟨r',a',b'⟩:=h'
 have e:=a.one a'
 subst e
 rcases b with ⟨x,rfl⟩ | ⟨x,y⟩
 ·rcases b' with ⟨_,rfl⟩ | ⟨z,_⟩
  ·rfl
  ·exact absurd z x
 ·rcases b' with ⟨z,_⟩ | ⟨_,u⟩
  ·exact absurd x z
  ·exact y.one u
theorem NewE.up {eps:Int} {k v:Nat→Int} {g:Nat→Bool} {n:Nat} (h:NewE eps k v g n 0):(2≤eps∧eps≤64)∧Up k n:=by
 rcases h with ⟨_,e⟩ | ⟨a,⟨_,u,_⟩ | ⟨e,_⟩ | ⟨e,_⟩⟩
 ·cases e
 ·exact ⟨a,u⟩
 ·cases e
 ·cases e
def RunOut (HR:World→Nat→(Nat→Prop)→Int→(Nat→Int)→(Nat→Int)→(Nat→Bool)→Nat→List (List Sg)→Prop) (w w':World) (ex:Ending) (eps:Int) (k v:Nat→Int) (g:Nat→Bool) (n:Nat):Prop :=
 ∃ E,NewE eps k v g n E∧((E≠0∧ex=.returned (.tuple #[.pointer none, .int .i64 E]))∨(E=0∧∃ p S L,ex=.returned (.tuple #[.pointer (some ⟨p,0,none⟩), .int .i64 0])∧(∀ q,S q→w.heap.size≤q)∧BuildR eps k n L∧HR w' p S eps k v g n L))
def OfOutR (HR:World→Nat→(Nat→Prop)→Int→(Nat→Int)→(Nat→Int)→(Nat→Bool)→Nat→List (List Sg)→Prop) (w w':World) (ex:Ending) (eps:Int) (k v:Nat→Int) (g:Nat→Bool) (n:Nat) (L:List (List Sg)):Prop :=
 ∃ E,OfE eps k v g n L E∧((E≠0∧ex=.returned (.tuple #[.pointer none, .int .i64 E]))∨(E=0∧∃ p S,ex=.returned (.tuple #[.pointer (some ⟨p,0,none⟩), .int .i64 0])∧(∀ q,S q→w.heap.size≤q)∧HR w' p S eps k v g n L))
theorem BuildR.fine {eps:Int} {f:Nat→Int} {n:Nat} {L:List (List Sg)} (e0:2≤eps) (n1:n≤2000000) (bd:∀ t,t<n→0≤f t∧f t<18446744073709551616) (u:Up f n) (b:BuildR eps f n L):Short L:=by
 refine ⟨?_,fun i hi=>by have:=b.short n1 bd u i hi;omega⟩
 have a:=b.low e0 n1 bd u
 have c:=hgt_le (e:=eps.toNat) (by omega) n
 omega
end Go.Proofs.YtinefkljjnepjabGreat
namespace Go.Proofs.YtinefkljjnepjabGreat
open Go.RowKit
set_option linter.unusedVariables false
structure RunC (HR:World→Nat→(Nat→Prop)→Int→(Nat→Int)→(Nat→Int)→(Nat→Bool)→Nat→List (List Sg)→Prop):Prop where
 keep:∀ {w w':World} {p:Nat} {S:Nat→Prop} {eps:Int} {k v:Nat→Int} {g:Nat→Bool} {n:Nat} {L:List (List Sg)},HR w p S eps k v g n L→(∀ q,S q→w'.heap[q]?=w.heap[q]?)→HR w' p S eps k v g n L
 lt:∀ {w:World} {p:Nat} {S:Nat→Prop} {eps:Int} {k v:Nat→Int} {g:Nat→Bool} {n:Nat} {L:List (List Sg)},HR w p S eps k v g n L→∀ q,S q→q<w.heap.size
 own:∀ {w:World} {p:Nat} {S:Nat→Prop} {eps:Int} {k v:Nat→Int} {g:Nat→Bool} {n:Nat} {L:List (List Sg)},HR w p S eps k v g n L→S p
 ready:∀ {w:World} {p:Nat} {S:Nat→Prop} {eps:Int} {k v:Nat→Int} {g:Nat→Bool} {n:Nat} {L:List (List Sg)},HR w p S eps k v g n L→Ready eps k n L
 pile:∀ {w:World} {p:Nat} {S:Nat→Prop} {eps:Int} {k v:Nat→Int} {g:Nat→Bool} {n:Nat} {L:List (List Sg)},HR w p S eps k v g n L→∃ pp Sp,w.cell? ⟨p,0,none⟩=some (.pointer (some ⟨pp,0,none⟩))∧HPile w pp Sp eps k n L∧∀ q,Sp q→S q
 new:∀ (eps:Int) (ao:Option Addr) (n cp:Nat) (k v:Nat→Int) (g:Nat→Bool),-9223372036854775808≤eps→eps<9223372036854775808→n≤2000000→n≤cp→(ao=none→n=0∧cp=0)→∀ w:World,ES w ao n k v g→Calls Tryz.prog 14 #[.slice ao n cp, .int .i64 eps] w fun ex w'=>RunOut HR w w' ex eps k v g n∧Gw w w'
 of:∀ (eps:Int) (ao:Option Addr) (n cp:Nat) (k v:Nat→Int) (g:Nat→Bool) (lo:Option Addr) (lc:Nat) (L:List (List Sg)),-9223372036854775808≤eps→eps<9223372036854775808→n≤2000000→n≤cp→(ao=none→n=0∧cp=0)→Short L→L.length≤lc→∀ w:World,ES w ao n k v g→VS w lo L→Calls Tryz.prog 22 #[.slice ao n cp, .int .i64 eps, .slice lo L.length lc] w fun ex w'=>OfOutR HR w w' ex eps k v g n L∧Gw w w'
 len:∀ {w:World} {p:Nat} {S:Nat→Prop} {eps:Int} {k v:Nat→Int} {g:Nat→Bool} {n:Nat} {L:List (List Sg)},HR w p S eps k v g n L→Calls Tryz.prog 20 #[.pointer (some ⟨p,0,none⟩)] w fun e w'=>e=.returned (.int .i64 (n:Int))∧Gw w w'
 at_:∀ {w:World} {p:Nat} {S:Nat→Prop} {eps:Int} {k v:Nat→Int} {g:Nat→Bool} {n:Nat} {L:List (List Sg)},HR w p S eps k v g n L→∀ i:Int,-9223372036854775808≤i→i<9223372036854775808→Calls Tryz.prog 19 #[.pointer (some ⟨p,0,none⟩), .int .i64 i] w fun e w'=>e=.returned (.tuple #[(atV k v g n i).1, .int .i64 (atV k v g n i).2])∧Gw w w'
 list:∀ {w:World} {p:Nat} {S:Nat→Prop} {eps:Int} {k v:Nat→Int} {g:Nat→Bool} {n:Nat} {L:List (List Sg)},HR w p S eps k v g n L→Calls Tryz.prog 10 #[.pointer (some ⟨p,0,none⟩)] w fun e w'=>(∃ bo c,e=.returned (.slice bo n c)∧ER w' w.heap.size (.slice bo n c) k v g n)∧Gw w w'
 levels:∀ {w:World} {p:Nat} {S:Nat→Prop} {eps:Int} {k v:Nat→Int} {g:Nat→Bool} {n:Nat} {L:List (List Sg)},HR w p S eps k v g n L→Calls Tryz.prog 29 #[.pointer (some ⟨p,0,none⟩)] w fun e w'=>(∃ lo lc vals,e=.returned (.slice lo L.length lc)∧OwnV w' w.heap.size (.slice lo L.length lc) L vals∧Lok L∧L.length≤lc)∧Gw w w'
 rank:∀ {w:World} {p:Nat} {S:Nat→Prop} {eps:Int} {k v:Nat→Int} {g:Nat→Bool} {n:Nat} {L:List (List Sg)},HR w p S eps k v g n L→∀ q:Int,0≤q→q<18446744073709551616→Calls Tryz.prog 12 #[.pointer (some ⟨p,0,none⟩), .int .u64 q] w fun e w'=>e=.returned (.int .i64 (cntb k q n:Nat))∧Gw w w'
 get:∀ {w:World} {p:Nat} {S:Nat→Prop} {eps:Int} {k v:Nat→Int} {g:Nat→Bool} {n:Nat} {L:List (List Sg)},HR w p S eps k v g n L→∀ q:Int,0≤q→q<18446744073709551616→Calls Tryz.prog 11 #[.pointer (some ⟨p,0,none⟩), .int .u64 q] w fun e w'=>e=.returned (.tuple #[(getV k v g n q).1, .bool (getV k v g n q).2])∧Gw w w'
theorem RunC.gw {HR:World→Nat→(Nat→Prop)→Int→(Nat→Int)→(Nat→Int)→(Nat→Bool)→Nat→List (List Sg)→Prop} (H:RunC HR) {w w':World} {p:Nat} {S:Nat→Prop} {eps:Int} {k v:Nat→Int} {g:Nat→Bool} {n:Nat} {L:List (List Sg)} (h:HR w p S eps k v g n L) (gg:Gw w w'):HR w' p S eps k v g n L:=H.keep h fun q hq=>gg.below.block q (H.lt h q hq)
end Go.Proofs.YtinefkljjnepjabGreat
namespace Go.Proofs.YtinefkljjnepjabGreat
open Go.RowKit
set_option linter.unusedVariables false
attribute [local go_sem] run_store_float f64bits
end Go.Proofs.YtinefkljjnepjabGreat
namespace Go.Proofs.YtinefkljjnepjabGreat
set_option linter.unusedVariables false
def asks (A:List (Int×Int)) (l:Int):Nat:=(A.filter fun a=>decide (a.1=l)).length
end Go.Proofs.YtinefkljjnepjabGreat
namespace Go.Proofs.YtinefkljjnepjabGreat
open Go.RowKit
set_option linter.unusedVariables false
attribute [local go_sem] run_store_float
def s11:Sg:=⟨10,4587366580439587226,4607182418800017408,0,5⟩
def Sh (w3:World) (bx by' bs:Nat) (W:World):Prop:=Gw w3 W∧W.heap[bx]?=some (.cells #[.int .u64 30, .int .u64 0, .bool true] 39 (0,0))∧W.heap[by']?=some (.cells #[.int .u64 20, .int .u64 2, .bool false] 39 (0,0))∧W.heap[bs]?=some (.cells #[.int .u64 10, .float .f64 4587366580439587226, .float .f64 4607182418800017408, .int .i64 0, .int .i64 5] 100 (0,0))
theorem Sh.gw {w3 W W':World} {bx by' bs:Nat} (h:Sh w3 bx by' bs W) (g:Gw W W'):Sh w3 bx by' bs W' :=
 ⟨h.1.trans g,(g.below.block bx (Array.getElem?_eq_some_iff.1 h.2.1).1).trans h.2.1,(g.below.block by' (Array.getElem?_eq_some_iff.1 h.2.2.1).1).trans h.2.2.1,(g.below.block bs (Array.getElem?_eq_some_iff.1 h.2.2.2).1).trans h.2.2.2⟩
theorem Sh.seg {w3 W:World} {bx by' bs:Nat} (h:Sh w3 bx by' bs W):W.cell? ⟨bs,0,none⟩=some (.int .u64 10)∧W.cell? ⟨bs,1,none⟩=some (.float .f64 4587366580439587226)∧W.cell? ⟨bs,2,none⟩=some (.float .f64 4607182418800017408)∧W.cell? ⟨bs,4,none⟩=some (.int .i64 5):=by
 refine ⟨?_,?_,?_,?_⟩<;>simp [World.cell?,h.2.2.2]
end Go.Proofs.YtinefkljjnepjabGreat
namespace Go.Proofs.YtinefkljjnepjabGreat
open Go.RowKit
set_option linter.unusedVariables false
end Go.Proofs.YtinefkljjnepjabGreat
namespace Go.Proofs.YtinefkljjnepjabGreat
open Go.RowKit
set_option linter.unusedVariables false
def Lens (L' L:List (List Sg)):Prop:=L'.length=L.length∧∀ j,(L'.getD j []).length=(L.getD j []).length
theorem Lens.refl (L:List (List Sg)):Lens L L:=⟨rfl,fun _=>rfl⟩
theorem Lens.put {L' L:List (List Sg)} (h:Lens L' L) (i k:Nat) (s:Sg):Lens (L'.set i ((L'.getD i []).set k s)) L:=by
 refine ⟨by rw [List.length_set];exact h.1,fun j=>?_⟩
 by_cases e:i=j
 ·subst e
  by_cases hi:i<L'.length
  ·rw [List.getD_eq_getElem?_getD,List.getElem?_set_self hi]
   show ((L'.getD i []).set k s).length=_
   rw [List.length_set]
   exact h.2 i
  ·rw [List.set_eq_of_length_le (by omega)]
   exact h.2 i
 ·rw [List.getD_eq_getElem?_getD,List.getElem?_set_ne e,←List.getD_eq_getElem?_getD]
  exact h.2 j
end Go.Proofs.YtinefkljjnepjabGreat
