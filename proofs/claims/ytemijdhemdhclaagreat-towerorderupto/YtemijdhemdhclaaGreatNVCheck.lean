/- The document's Check of layer 8. -/
import Derived.Deep.DeepCutAuto
import Derived.Test.YtemijdhemdhclaaGreatNPFg
set_option linter.unusedVariables false
namespace Go.Proofs.YtemijdhemdhclaaGreat
open Go.RowKit
attribute [local go_sem] run_store_float
def CheckR (eps:Int) (f:Nat->Int) (n:Nat) (L:List (List Sg)) (E:Int):Prop :=
 (¬ (2<=eps/\eps<=64)/\E=1)\/((2<=eps/\eps<=64)/\¬ Up f n/\E=80)\/((2<=eps/\eps<=64)/\Up f n/\¬ ((L.length:Int)<=mxh 4294967296 eps/\(L.length=0↔n=0))/\E=81)\/((2<=eps/\eps<=64)/\Up f n/\((L.length:Int)<=mxh 4294967296 eps/\(L.length=0↔n=0))/\E=chkE eps f n L)
theorem CheckR.one {eps:Int} {f:Nat->Int} {n:Nat} {L:List (List Sg)} {E E':Int} (h:CheckR eps f n L E) (h':CheckR eps f n L E'):E=E':=by
 rcases h with ⟨a,rfl⟩ | ⟨a,b,rfl⟩ | ⟨a,b,c,rfl⟩ | ⟨a,b,c,rfl⟩<;>rcases h' with ⟨a',rfl⟩ | ⟨a',b',rfl⟩ | ⟨a',b',c',rfl⟩ | ⟨a',b',c',rfl⟩<;>first
  | rfl
  | exact absurd a a'
  | exact absurd a' a
  | exact absurd b b'
  | exact absurd b' b
  | exact absurd c c'
  | exact absurd c' c
theorem dropL_at {L:List (List Sg)} {i:Nat} (h:i<L.length):L.drop i=L.getD i []::L.drop (i+1):=by
 rw [List.drop_eq_getElem_cons h,List.getD_eq_getElem?_getD,List.getElem?_eq_getElem h];rfl
theorem ks_cut {w:World} {bk off n a b:Nat} {f:Nat->Int} (h:KS w (some ⟨bk,off,none⟩) n f) (hb:b<=n):KS w (some ⟨bk,off+a,none⟩) (b-a) (sh f a) :=
 ⟨fun h0=>by
  obtain ⟨b',o',e,hl,hc⟩:=h.cells (by omega)
  cases e
  exact ⟨bk,off+a,rfl,hl,fun i hi=>by rw [Nat.add_assoc];exact hc (a+i) (by omega)⟩,fun i hi=>h.bd (a+i) (by omega)⟩
def restE (eps:Int) (l:List Sg) (r:List (List Sg)):Int:=if r=[] then (if l.length=1 then 0 else 84) else chkE eps (fst8 l) l.length r
theorem chkE_cons {eps:Int} {f:Nat->Int} {n:Nat} {l:List Sg} {r:List (List Sg)}:chkE eps f n (l::r)=if (tileB n 0 l&&!l.isEmpty)=false then 82 else if lvlE eps f l≠0 then lvlE eps f l else restE eps l r:=rfl
theorem lvlE_cons {eps:Int} {f:Nat->Int} {s:Sg} {l:List Sg}:lvlE eps f (s::l)=if segE eps f s≠0 then segE eps f s else lvlE eps f l:=rfl
end Go.Proofs.YtemijdhemdhclaaGreat
namespace Go.Proofs.YtemijdhemdhclaaGreat
open Go.RowKit
def BuildE (eps:Int) (f:Nat->Int) (n:Nat) (L:List (List Sg)) (err:Int):Prop :=
 (¬ (2<=eps/\eps<=64)/\L=[]/\err=1)\/((2<=eps/\eps<=64)/\¬ Up f n/\L=[]/\err=80)\/((2<=eps/\eps<=64)/\Up f n/\BuildR eps f n L/\err=0)
def CheckOut (ex:Ending) (eps:Int) (f:Nat->Int) (n:Nat) (L:List (List Sg)):Prop:=∃ E,ex=.returned (.int .i64 E)/\CheckR eps f n L E
def Short (L:List (List Sg)):Prop:=L.length<=2000000/\∀ i,i<L.length->(L.getD i []).length<=2000000
theorem BuildR.short {eps:Int}:∀ {L:List (List Sg)} {f:Nat->Int} {n:Nat},n<=2000000->(∀ t,t<n->0<=f t/\f t<18446744073709551616)->Up f n->BuildR eps f n L->∀ i,i<L.length->(L.getD i []).length<=n:=by
 intro L;induction L with
 | nil=>intro f n _ _ _ _ i hi;simp at hi
 | cons l r ih =>
  intro f n n1 bd u h i hi;obtain ⟨a,b,c⟩:=h;have ln:=b.len n1 bd;cases i with
  | zero=>show l.length<=n;omega
  | succ i =>
   by_cases q:l.length=1
   ·rw [if_pos q] at c;subst c;simp at hi
   ·rw [if_neg q] at c
    obtain ⟨u1,_,u3⟩:=fst8_up u (b.tiles n1 bd) (b.keys n1 bd);have:=ih (by omega) (fst8_bd bd u3) u1 c i (by simpa using hi)
    show (r.getD i []).length<=n;omega
end Go.Proofs.YtemijdhemdhclaaGreat
namespace Go.Proofs.YtemijdhemdhclaaGreat
open Go.RowKit
attribute [local go_sem] run_store_float
def sgc (s:Sg):List Value:=[.int .u64 s.k,.float .f64 s.sl,.float .f64 s.ic,.int .i64 s.fr,.int .i64 s.te]
theorem flat_get:∀ (l:List Sg) (i:Nat),i<l.length->∀ j,j<5->(l.flatMap sgc)[i*5+j]?=(sgc (l.getD i sg0))[j]?:=by
 intro l;induction l with
 | nil=>intro i hi;simp at hi
 | cons s l ih =>
  intro i hi j hj;rw [List.flatMap_cons];have l5:(sgc s).length=5:=rfl;cases i with
  | zero =>
   rw [Nat.zero_mul,Nat.zero_add,List.getElem?_append_left (by rw [l5];exact hj)]
   rfl
  | succ i =>
   rw [List.getElem?_append_right (by rw [l5];omega),l5,show (i+1)*5+j-5=i*5+j by omega]
   exact ih i (by simpa using hi) j hj
end Go.Proofs.YtemijdhemdhclaaGreat
