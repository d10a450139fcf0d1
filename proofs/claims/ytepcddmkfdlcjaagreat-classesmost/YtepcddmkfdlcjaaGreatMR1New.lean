/- The document's layer 11: New. -/
import Derived.Test.YtepcddmkfdlcjaaGreatMR4Fit
import Derived.Test.YtepcddmkfdlcjaaGreatMPE3
namespace Go.Proofs.YtepcddmkfdlcjaaGreat
open Go.RowKit
set_option linter.unusedVariables false
def ecs (k v:Nat→Int) (g:Nat→Bool) (n:Nat):List Value:=(List.range (n*3)).map (ecell k v g)
theorem ecs_len (k v:Nat→Int) (g:Nat→Bool) (n:Nat):(ecs k v g n).length=n*3:=by simp [ecs]
theorem ecs_at (k v:Nat→Int) (g:Nat→Bool) {n j:Nat} (h:j<n*3):(ecs k v g n)[j]?=some (ecell k v g j):=by simp [ecs,h]
theorem ecs_one (k v:Nat→Int) (g:Nat→Bool) (n:Nat):∀ u∈ecs k v g n,u.oneCell'=true:=by
 intro u hu
 obtain ⟨j,_,rfl⟩:=List.mem_map.1 hu
 exact ecell_one k v g j
theorem es_news {w:World} {ao:Option Addr} {n:Nat} {k v:Nat→Int} {g:Nat→Bool} (h:ES w ao n k v g):∀ ad,ao=some ad→∀ j u,(ecs k v g n)[j]?=some u→w.cell? (ad.add j)=some u:=by
 intro ad e j u hu
 have hj:j<n*3:=by
  have:=(List.getElem?_eq_some_iff.1 hu).1
  rwa [ecs_len] at this
 obtain ⟨b,off,e',_,hc⟩:=h.flat (by omega)
 rw [e] at e'
 cases e'
 rw [Addr.add_lit,hc j hj,←ecs_at k v g hj]
 exact hu
def ER (w:World) (base:Nat) (x:Value) (k v:Nat→Int) (g:Nat→Bool) (n:Nat):Prop:=w.ownsRow base 40 3 x n (ecs k v g n)
theorem er_es {w:World} {base:Nat} {ao:Option Addr} {cap n:Nat} {k v:Nat→Int} {g:Nat→Bool} (h:ER w base (.slice ao n cap) k v g n) (bd:∀ i,i<n→(0≤k i∧k i<18446744073709551616)∧(0≤v i∧v i<18446744073709551616)):ES w ao n k v g:=by
 refine ⟨fun h0=>?_,bd⟩
 rcases h.2 with ⟨e,z⟩ | ⟨b,cap',cur,e,hb,hh,r⟩
 ·omega
 ·cases e
  have h':w.ownsRow base 40 3 (.slice (some ⟨b,0,none⟩) n cap) n (ecs k v g n):=h
  have ce:∀ j,j<n*3→w.cell? ⟨b,j,none⟩=some (ecell k v g j):=fun j hj=>by
   rw [h'.cellAt j hj,ecs_at k v g hj]
  refine ⟨b,0,rfl,(Array.getElem?_eq_some_iff.1 hh).1,fun i hi=>⟨?_,?_,?_⟩⟩
  ·rw [Nat.zero_add,ce _ (by omega),ecell_0]
  ·rw [Nat.zero_add,ce _ (by omega),ecell_1]
  ·rw [Nat.zero_add,ce _ (by omega),ecell_2]
theorem er_form {w:World} {base:Nat} {x:Value} {k v:Nat→Int} {g:Nat→Bool} {n:Nat} (h:ER w base x k v g n):∃ bo c,x=.slice bo n c∧n≤c∧∀ a,bo=some a→base≤a.block∧a.block<w.heap.size:=by
 rcases h.2 with ⟨e,z⟩ | ⟨b,cap,cur,e,hb,hh,hc,_⟩
 ·exact ⟨none,0,by rw [e,z],by omega,fun a q=>by cases q⟩
 ·exact ⟨some ⟨b,0,none⟩,cap,e,hc,fun a q=>by cases q;exact ⟨hb,(Array.getElem?_eq_some_iff.1 hh).1⟩⟩
theorem VSf.low {w:World} {base base':Nat} {ao:Option Addr} {L:List (List Sg)} (h:VSf w base ao L) (hb:base'≤base):VSf w base' ao L :=
 ⟨fun h0=>by
  obtain ⟨b,off,e,x,hc⟩:=h.cells h0
  refine ⟨b,off,e,⟨Nat.le_trans hb x.1,x.2⟩,fun i hi=>?_⟩
  obtain ⟨bo,c,y1,y2,y3,y4,y5⟩:=hc i hi
  exact ⟨bo,c,y1,y2,y3,y4,fun a ea=>⟨Nat.le_trans hb (y5 a ea).1,(y5 a ea).2⟩⟩⟩
def NewE (eps:Int) (k v:Nat→Int) (g:Nat→Bool) (n:Nat) (E:Int):Prop:=(¬ (2≤eps∧eps≤64)∧E=1)∨((2≤eps∧eps≤64)∧ChkR k v g n E)
theorem NewE.one {eps:Int} {k v:Nat→Int} {g:Nat→Bool} {n:Nat} {E E':Int} (h:NewE eps k v g n E) (h':NewE eps k v g n E'):E=E':=by
 rcases h with ⟨a,rfl⟩ | ⟨a,c⟩
 ·rcases h' with ⟨_,rfl⟩ | ⟨b,_⟩
  ·rfl
  ·exact absurd b a
 ·rcases h' with ⟨b,_⟩ | ⟨_,d⟩
  ·exact absurd a b
  ·exact c.one d
def OfE (eps:Int) (k v:Nat→Int) (g:Nat→Bool) (n:Nat) (L:List (List Sg)) (E:Int):Prop:=∃ r,NewE eps k v g n r∧((r≠0∧E=r)∨(r=0∧CheckR eps k n L E))
theorem OfE.one {eps:Int} {k v:Nat→Int} {g:Nat→Bool} {n:Nat} {L:List (List Sg)} {E E':Int} (h:OfE eps k v g n L E) (h':OfE eps k v g n L E'):E=E':=by
 obtain ⟨r,a,b⟩:=h
 obtain ⟨r',a',b'⟩:=h'
 have e:=a.one a'
 subst e
 rcases b with ⟨x,rfl⟩ | ⟨x,y⟩
 ·rcases b' with ⟨_,rfl⟩ | ⟨z,_⟩
  ·rfl
  ·exact absurd z x
 ·rcases b' with ⟨z,_⟩ | ⟨_,u⟩
  ·exact absurd x z
  ·exact y.one u
theorem NewE.up {eps:Int} {k v:Nat→Int} {g:Nat→Bool} {n:Nat} (h:NewE eps k v g n 0):(2≤eps∧eps≤64)∧Up k n:=by
 rcases h with ⟨_,e⟩ | ⟨a,⟨_,u,_⟩ | ⟨e,_⟩ | ⟨e,_⟩⟩
 ·cases e
 ·exact ⟨a,u⟩
 ·cases e
 ·cases e
def RunOut (HR:World→Nat→(Nat→Prop)→Int→(Nat→Int)→(Nat→Int)→(Nat→Bool)→Nat→List (List Sg)→Prop) (w w':World) (ex:Ending) (eps:Int) (k v:Nat→Int) (g:Nat→Bool) (n:Nat):Prop :=
 ∃ E,NewE eps k v g n E∧((E≠0∧ex=.returned (.tuple #[.pointer none, .int .i64 E]))∨(E=0∧∃ p S L,ex=.returned (.tuple #[.pointer (some ⟨p,0,none⟩), .int .i64 0])∧(∀ q,S q→w.heap.size≤q)∧BuildR eps k n L∧HR w' p S eps k v g n L))
def OfOutR (HR:World→Nat→(Nat→Prop)→Int→(Nat→Int)→(Nat→Int)→(Nat→Bool)→Nat→List (List Sg)→Prop) (w w':World) (ex:Ending) (eps:Int) (k v:Nat→Int) (g:Nat→Bool) (n:Nat) (L:List (List Sg)):Prop :=
 ∃ E,OfE eps k v g n L E∧((E≠0∧ex=.returned (.tuple #[.pointer none, .int .i64 E]))∨(E=0∧∃ p S,ex=.returned (.tuple #[.pointer (some ⟨p,0,none⟩), .int .i64 0])∧(∀ q,S q→w.heap.size≤q)∧HR w' p S eps k v g n L))
theorem BuildR.fine {eps:Int} {f:Nat→Int} {n:Nat} {L:List (List Sg)} (e0:2≤eps) (n1:n≤2000000) (bd:∀ t,t<n→0≤f t∧f t<18446744073709551616) (u:Up f n) (b:BuildR eps f n L):Short L:=by
 refine ⟨?_,fun i hi=>by have:=b.short n1 bd u i hi;omega⟩
 have a:=b.low e0 n1 bd u
 have c:=hgt_le (e:=eps.toNat) (by omega) n
 omega
end Go.Proofs.YtepcddmkfdlcjaaGreat
