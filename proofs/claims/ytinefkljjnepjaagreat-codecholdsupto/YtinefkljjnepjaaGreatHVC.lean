/- What the statements of layer 8 ask of package levels, as one structure. -/
import Derived.Test.YtinefkljjnepjaaGreatHVCheck
namespace Go.Proofs.YtinefkljjnepjaaGreat
open Go.RowKit
set_option linter.unusedVariables false
def BuildE (eps:Int) (f:Nat→Int) (n:Nat) (L:List (List Sg)) (err:Int):Prop :=
 (¬ (2≤eps∧eps≤64)∧L=[]∧err=1)∨((2≤eps∧eps≤64)∧¬ Up f n∧L=[]∧err=80)∨((2≤eps∧eps≤64)∧Up f n∧BuildR eps f n L∧err=0)
theorem BuildE.one {eps:Int} {f:Nat→Int} {n:Nat} {L L':List (List Sg)} {err err':Int} (h:BuildE eps f n L err) (k:BuildE eps f n L' err'):L=L'∧err=err':=by
 rcases h with ⟨h1,rfl,rfl⟩ | ⟨h1,h2,rfl,rfl⟩ | ⟨h1,h2,h3,rfl⟩
 ·rcases k with ⟨_,rfl,rfl⟩ | ⟨k1,_⟩ | ⟨k1,_⟩
  ·exact ⟨rfl,rfl⟩
  all_goals exact absurd k1 h1
 ·rcases k with ⟨k1,_⟩ | ⟨_,_,rfl,rfl⟩ | ⟨_,k2,_⟩
  ·exact absurd h1 k1
  ·exact ⟨rfl,rfl⟩
  ·exact absurd k2 h2
 ·rcases k with ⟨k1,_⟩ | ⟨_,k2,_⟩ | ⟨_,_,k3,rfl⟩
  ·exact absurd h1 k1
  ·exact absurd h2 k2
  ·exact ⟨h3.one k3,rfl⟩
def CheckOut (ex:Ending) (eps:Int) (f:Nat→Int) (n:Nat) (L:List (List Sg)):Prop:=∃ E,ex=.returned (.int .i64 E)∧CheckR eps f n L E
def Short (L:List (List Sg)):Prop:=L.length≤2000000∧∀ i,i<L.length→(L.getD i []).length≤2000000
theorem BuildR.short {eps:Int}:∀ {L:List (List Sg)} {f:Nat→Int} {n:Nat},n≤2000000→(∀ t,t<n→0≤f t∧f t<18446744073709551616)→Up f n→BuildR eps f n L→∀ i,i<L.length→(L.getD i []).length≤n:=by
 intro L
 induction L with
 | nil=>intro f n _ _ _ _ i hi;simp at hi
 | cons l r ih =>
  intro f n n1 bd u h i hi
  obtain ⟨a,b,c⟩:=h
  have ln:=b.len n1 bd
  cases i with
  | zero=>show l.length≤n;omega
  | succ i =>
   by_cases q:l.length=1
   ·rw [if_pos q] at c;subst c;simp at hi
   ·rw [if_neg q] at c
    obtain ⟨u1,_,u3⟩:=fst8_up u (b.tiles n1 bd) (b.keys n1 bd)
    have:=ih (by omega) (fst8_bd bd u3) u1 c i (by simpa using hi)
    show (r.getD i []).length≤n
    omega
end Go.Proofs.YtinefkljjnepjaaGreat
namespace Go.Proofs.YtinefkljjnepjaaGreat
open Go.RowKit
set_option linter.unusedVariables false
attribute [local go_sem] run_store_float
def sgc (s:Sg):List Value:=[.int .u64 s.k, .float .f64 s.sl, .float .f64 s.ic, .int .i64 s.fr, .int .i64 s.te]
theorem flat_get:∀ (l:List Sg) (i:Nat),i<l.length→∀ j,j<5→(l.flatMap sgc)[i*5+j]?=(sgc (l.getD i sg0))[j]?:=by
 intro l
 induction l with
 | nil=>intro i hi;simp at hi
 | cons s l ih =>
  intro i hi j hj
  rw [List.flatMap_cons]
  have l5:(sgc s).length=5:=rfl
  cases i with
  | zero =>
   rw [Nat.zero_mul,Nat.zero_add,List.getElem?_append_left (by rw [l5];exact hj)]
   rfl
  | succ i =>
   rw [List.getElem?_append_right (by rw [l5];omega),l5,show (i+1)*5+j-5=i*5+j by omega]
   exact ih i (by simpa using hi) j hj
end Go.Proofs.YtinefkljjnepjaaGreat
