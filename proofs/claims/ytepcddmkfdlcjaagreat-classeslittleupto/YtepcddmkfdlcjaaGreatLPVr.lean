/- Lists of segments, and levels, in memory. -/
import Derived.BigQuiet
import Derived.Deep.LoopGhost
import Derived.Deep.QuietTactic
import Derived.Deep.RegionHeld3
import Derived.Test.YtepcddmkfdlcjaaGreatLPSt
import Derived.Test.YtepcddmkfdlcjaaGreatLPVp
namespace Go.Proofs.YtepcddmkfdlcjaaGreat
open Go.RowKit
set_option linter.unusedVariables false
structure SgAt (w:World) (b off:Nat) (s:Sg):Prop where
 c0:w.cell? ⟨b,off,none⟩=some (.int .u64 s.k)
 c1:w.cell? ⟨b,off+1,none⟩=some (.float .f64 s.sl)
 c2:w.cell? ⟨b,off+2,none⟩=some (.float .f64 s.ic)
 c3:w.cell? ⟨b,off+3,none⟩=some (.int .i64 s.fr)
 c4:w.cell? ⟨b,off+4,none⟩=some (.int .i64 s.te)
theorem SgAt.gw {w w':World} {b off:Nat} {s:Sg} (h:SgAt w b off s) (hb:b<w.heap.size) (g:Gw w w'):SgAt w' b off s :=
 ⟨(g.cell _ _ hb).trans h.c0,(g.cell _ _ hb).trans h.c1,(g.cell _ _ hb).trans h.c2,(g.cell _ _ hb).trans h.c3,(g.cell _ _ hb).trans h.c4⟩
abbrev Sg.ok (s:Sg):Prop:=SegOk s.k s.sl s.ic s.fr s.te
abbrev sgV (s:Sg):Value:=segV s.k s.sl s.ic s.fr s.te
structure GS (w:World) (ao:Option Addr) (l:List Sg):Prop where
 cells:0<l.length→∃ b off,ao=some ⟨b,off,none⟩∧b<w.heap.size∧∀ i,i<l.length→SgAt w b (off+i*5) (l.getD i sg0)
 ok:∀ i,i<l.length→(l.getD i sg0).ok
theorem GS.gw {w w':World} {ao:Option Addr} {l:List Sg} (h:GS w ao l) (g:Gw w w'):GS w' ao l :=
 ⟨fun h0=>by
  obtain ⟨b,off,e,hb,hc⟩:=h.cells h0
  exact ⟨b,off,e,Nat.lt_of_lt_of_le hb g.size,fun i hi=>(hc i hi).gw hb g⟩,h.ok⟩
theorem GS.mem {w:World} {ao:Option Addr} {l:List Sg} (h:GS w ao l):∀ s∈l,s.ok:=by
 intro s hs
 obtain ⟨i,hi,rfl⟩:=List.mem_iff_getElem.1 hs
 have:=h.ok i hi
 rwa [List.getD_eq_getElem?_getD,List.getElem?_eq_getElem hi] at this
structure VS (w:World) (ao:Option Addr) (L:List (List Sg)):Prop where
 cells:0<L.length→∃ b off,ao=some ⟨b,off,none⟩∧b<w.heap.size∧∀ i,i<L.length→∃ bo c,w.cell? ⟨b,off+i,none⟩=some (.slice bo (L.getD i []).length c)∧(L.getD i []).length≤c∧(bo=none→(L.getD i []).length=0∧c=0)∧GS w bo (L.getD i [])
theorem VS.gw {w w':World} {ao:Option Addr} {L:List (List Sg)} (h:VS w ao L) (g:Gw w w'):VS w' ao L :=
 ⟨fun h0=>by
  obtain ⟨b,off,e,hb,hc⟩:=h.cells h0
  refine ⟨b,off,e,Nat.lt_of_lt_of_le hb g.size,fun i hi=>?_⟩
  obtain ⟨bo,c,h1,h2,h3,h4⟩:=hc i hi
  exact ⟨bo,c,(g.cell _ _ hb).trans h1,h2,h3,h4.gw g⟩⟩
theorem fst8_ok {w:World} {ao:Option Addr} {l:List Sg} (h:GS w ao l):∀ t,t<l.length→0≤fst8 l t∧fst8 l t<18446744073709551616:=fun t ht=>⟨(h.ok t ht).k0,(h.ok t ht).k1⟩
end Go.Proofs.YtepcddmkfdlcjaaGreat
namespace Go.Proofs.YtepcddmkfdlcjaaGreat
open Go.RowKit
set_option linter.unusedVariables false
theorem drop_at {l:List Sg} {i:Nat} (h:i<l.length):l.drop i=l.getD i sg0::l.drop (i+1):=by
 rw [List.drop_eq_getElem_cons h,List.getD_eq_getElem?_getD,List.getElem?_eq_getElem h];rfl
def mxh (n eps:Int):Int:=if 2≤eps∧eps≤64∧1≤n then (hgt eps.toNat n.toNat:Nat) else 0
theorem hgt_le {e:Nat} (he:2≤e):∀ n,hgt e n≤n:=by
 intro n
 induction n using Nat.strongRecOn with
 | ind n ih =>
  by_cases h0:n=0
  ·subst h0;exact Nat.le_refl _
  ·by_cases h1:n≤2*e-1
   ·rw [hgt_one (by omega) h1];omega
   ·rw [hgt_more he h1]
    have:=ih _ (div_less he h1)
    have:=div_less he h1
    omega
end Go.Proofs.YtepcddmkfdlcjaaGreat
namespace Go.Proofs.YtepcddmkfdlcjaaGreat
open Go.RowKit
set_option linter.unusedVariables false
attribute [local go_sem] run_store_float
def CheckR (eps:Int) (f:Nat→Int) (n:Nat) (L:List (List Sg)) (E:Int):Prop :=
 (¬ (2≤eps∧eps≤64)∧E=1)∨((2≤eps∧eps≤64)∧¬ Up f n∧E=80)∨((2≤eps∧eps≤64)∧Up f n∧¬ ((L.length:Int)≤mxh 4294967296 eps∧(L.length=0↔n=0))∧E=81)∨((2≤eps∧eps≤64)∧Up f n∧((L.length:Int)≤mxh 4294967296 eps∧(L.length=0↔n=0))∧E=chkE eps f n L)
theorem CheckR.one {eps:Int} {f:Nat→Int} {n:Nat} {L:List (List Sg)} {E E':Int} (h:CheckR eps f n L E) (h':CheckR eps f n L E'):E=E':=by
 rcases h with ⟨a,rfl⟩ | ⟨a,b,rfl⟩ | ⟨a,b,c,rfl⟩ | ⟨a,b,c,rfl⟩<;>rcases h' with ⟨a',rfl⟩ | ⟨a',b',rfl⟩ | ⟨a',b',c',rfl⟩ | ⟨a',b',c',rfl⟩<;>first
  | rfl
  | exact absurd a a'
  | exact absurd a' a
  | exact absurd b b'
  | exact absurd b' b
  | exact absurd c c'
  | exact absurd c' c
theorem dropL_at {L:List (List Sg)} {i:Nat} (h:i<L.length):L.drop i=L.getD i []::L.drop (i+1):=by
 rw [List.drop_eq_getElem_cons h,List.getD_eq_getElem?_getD,List.getElem?_eq_getElem h];rfl
theorem ks_cut {w:World} {bk off n a b:Nat} {f:Nat→Int} (h:KS w (some ⟨bk,off,none⟩) n f) (hb:b≤n):KS w (some ⟨bk,off+a,none⟩) (b-a) (sh f a) :=
 ⟨fun h0=>by
  obtain ⟨b',o',e,hl,hc⟩:=h.cells (by omega)
  cases e
  exact ⟨bk,off+a,rfl,hl,fun i hi=>by rw [Nat.add_assoc];exact hc (a+i) (by omega)⟩,fun i hi=>h.bd (a+i) (by omega)⟩
def restE (eps:Int) (l:List Sg) (r:List (List Sg)):Int:=if r=[] then (if l.length=1 then 0 else 84) else chkE eps (fst8 l) l.length r
theorem chkE_cons {eps:Int} {f:Nat→Int} {n:Nat} {l:List Sg} {r:List (List Sg)}:chkE eps f n (l::r)=if (tileB n 0 l&&!l.isEmpty)=false then 82 else if lvlE eps f l≠0 then lvlE eps f l else restE eps l r:=rfl
theorem lvlE_cons {eps:Int} {f:Nat→Int} {s:Sg} {l:List Sg}:lvlE eps f (s::l)=if segE eps f s≠0 then segE eps f s else lvlE eps f l:=rfl
end Go.Proofs.YtepcddmkfdlcjaaGreat
namespace Go.Proofs.YtepcddmkfdlcjaaGreat
open Go.RowKit
set_option linter.unusedVariables false
def BuildE (eps:Int) (f:Nat→Int) (n:Nat) (L:List (List Sg)) (err:Int):Prop :=
 (¬ (2≤eps∧eps≤64)∧L=[]∧err=1)∨((2≤eps∧eps≤64)∧¬ Up f n∧L=[]∧err=80)∨((2≤eps∧eps≤64)∧Up f n∧BuildR eps f n L∧err=0)
theorem BuildE.one {eps:Int} {f:Nat→Int} {n:Nat} {L L':List (List Sg)} {err err':Int} (h:BuildE eps f n L err) (k:BuildE eps f n L' err'):L=L'∧err=err':=by
 rcases h with ⟨h1,rfl,rfl⟩ | ⟨h1,h2,rfl,rfl⟩ | ⟨h1,h2,h3,rfl⟩
 ·rcases k with ⟨_,rfl,rfl⟩ | ⟨k1,_⟩ | ⟨k1,_⟩
  ·exact ⟨rfl,rfl⟩
  all_goals exact absurd k1 h1
 ·rcases k with ⟨k1,_⟩ | ⟨_,_,rfl,rfl⟩ | ⟨_,k2,_⟩
  ·exact absurd h1 k1
  ·exact ⟨rfl,rfl⟩
  ·exact absurd k2 h2
 ·rcases k with ⟨k1,_⟩ | ⟨_,k2,_⟩ | ⟨_,_,k3,rfl⟩
  ·exact absurd h1 k1
  ·exact absurd h2 k2
  ·exact ⟨h3.one k3,rfl⟩
def CheckOut (ex:Ending) (eps:Int) (f:Nat→Int) (n:Nat) (L:List (List Sg)):Prop:=∃ E,ex=.returned (.int .i64 E)∧CheckR eps f n L E
def Short (L:List (List Sg)):Prop:=L.length≤2000000∧∀ i,i<L.length→(L.getD i []).length≤2000000
theorem BuildR.short {eps:Int}:∀ {L:List (List Sg)} {f:Nat→Int} {n:Nat},n≤2000000→(∀ t,t<n→0≤f t∧f t<18446744073709551616)→Up f n→BuildR eps f n L→∀ i,i<L.length→(L.getD i []).length≤n:=by
 intro L
 induction L with
 | nil=>intro f n _ _ _ _ i hi;simp at hi
 | cons l r ih =>
  intro f n n1 bd u h i hi
  obtain ⟨a,b,c⟩:=h
  have ln:=b.len n1 bd
  cases i with
  | zero=>show l.length≤n;omega
  | succ i =>
   by_cases q:l.length=1
   ·rw [if_pos q] at c;subst c;simp at hi
   ·rw [if_neg q] at c
    obtain ⟨u1,_,u3⟩:=fst8_up u (b.tiles n1 bd) (b.keys n1 bd)
    have:=ih (by omega) (fst8_bd bd u3) u1 c i (by simpa using hi)
    show (r.getD i []).length≤n
    omega
end Go.Proofs.YtepcddmkfdlcjaaGreat
namespace Go.Proofs.YtepcddmkfdlcjaaGreat
open Go.RowKit
set_option linter.unusedVariables false
attribute [local go_sem] run_store_float
def sgc (s:Sg):List Value:=[.int .u64 s.k, .float .f64 s.sl, .float .f64 s.ic, .int .i64 s.fr, .int .i64 s.te]
theorem flat_get:∀ (l:List Sg) (i:Nat),i<l.length→∀ j,j<5→(l.flatMap sgc)[i*5+j]?=(sgc (l.getD i sg0))[j]?:=by
 intro l
 induction l with
 | nil=>intro i hi;simp at hi
 | cons s l ih =>
  intro i hi j hj
  rw [List.flatMap_cons]
  have l5:(sgc s).length=5:=rfl
  cases i with
  | zero =>
   rw [Nat.zero_mul,Nat.zero_add,List.getElem?_append_left (by rw [l5];exact hj)]
   rfl
  | succ i =>
   rw [List.getElem?_append_right (by rw [l5];omega),l5,show (i+1)*5+j-5=i*5+j by omega]
   exact ih i (by simpa using hi) j hj
end Go.Proofs.YtepcddmkfdlcjaaGreat
