/- The document's Check of layer 8. -/
import Derived.Deep.DeepCutAuto
import Derived.Test.YtcboobmfnmgldaaGreatBMNear
set_option linter.unusedVariables false
namespace Go.Proofs.YtcboobmfnmgldaaGreat
open Go.RowKit
attribute [local go_sem] iy
def ji (eps:Int) (f:Nat->Int) (n:Nat) (L:List (List Sg)) (E:Int):Prop :=
 (¬ (2<=eps/\eps<=64)/\E=1)\/((2<=eps/\eps<=64)/\¬ Up f n/\E=80)\/((2<=eps/\eps<=64)/\Up f n/\¬ ((L.length:Int)<=mo 4294967296 eps/\(L.length=0↔n=0))/\E=81)\/((2<=eps/\eps<=64)/\Up f n/\((L.length:Int)<=mo 4294967296 eps/\(L.length=0↔n=0))/\E=lj eps f n L)
variable {eps:Int} {f:Nat->Int} {n:Nat}
theorem ji.one {L:List (List Sg)} {E E':Int} (h:ji eps f n L E) (h':ji eps f n L E'):E=E':=by
 rcases h with ⟨a,rfl⟩ | ⟨a,b,rfl⟩ | ⟨a,b,c,rfl⟩ | ⟨a,b,c,rfl⟩<;>rcases h' with ⟨a',rfl⟩ | ⟨a',b',rfl⟩ | ⟨a',b',c',rfl⟩ | ⟨a',b',c',rfl⟩<;>first
  | rfl
  | exact absurd a a'
  | exact absurd a' a
  | exact absurd b b'
  | exact absurd b' b
  | exact absurd c c'
  | exact absurd c' c
theorem ZU {L:List (List Sg)} {i:Nat} (h:i<L.length):L.drop i=L.getD i []::L.drop (i+1):=by
 rw [List.drop_eq_getElem_cons h,List.getD_eq_getElem?_getD,List.getElem?_eq_getElem h];rfl
theorem DG {w:World} {bk off a b:Nat} (h:KS w (some ⟨bk,off,none⟩) n f) (hb:b<=n):KS w (some ⟨bk,off+a,none⟩) (b-a) (sh f a) :=
 ⟨fun h0=>by
  obtain ⟨b',o',e,hl,hc⟩:=h.cells (by omega)
  cases e
  exact ⟨bk,off+a,rfl,hl,fun i hi=>by rw [Nat.add_assoc];exact hc (a+i) (by omega)⟩,fun i hi=>h.bd (a+i) (by omega)⟩
def zH (eps:Int) (l:List Sg) (r:List (List Sg)):Int:=if r=[] then (if l.length=1 then 0 else 84) else lj eps (bf l) l.length r
theorem Mc {l:List Sg} {r:List (List Sg)}:lj eps f n (l::r)=if (dx n 0 l&&!l.isEmpty)=false then 82 else if dW eps f l≠0 then dW eps f l else zH eps l r:=rfl
theorem ZW {s:Sg} {l:List Sg}:dW eps f (s::l)=if jh eps f s≠0 then jh eps f s else dW eps f l:=rfl
end Go.Proofs.YtcboobmfnmgldaaGreat
namespace Go.Proofs.YtcboobmfnmgldaaGreat
open Go.RowKit
def oY (eps:Int) (f:Nat->Int) (n:Nat) (L:List (List Sg)) (err:Int):Prop :=
 (¬ (2<=eps/\eps<=64)/\L=[]/\err=1)\/((2<=eps/\eps<=64)/\¬ Up f n/\L=[]/\err=80)\/((2<=eps/\eps<=64)/\Up f n/\cQ eps f n L/\err=0)
def ZX (ex:Ending) (eps:Int) (f:Nat->Int) (n:Nat) (L:List (List Sg)):Prop:=∃ E,ex=.returned (AI E)/\ji eps f n L E
def mq (L:List (List Sg)):Prop:=L.length<=2000000/\∀ i,i<L.length->(L.getD i []).length<=2000000
variable {eps:Int}
theorem cQ.short:∀ {L:List (List Sg)} {f:Nat->Int} {n:Nat},n<=2000000->(∀ t,t<n->0<=f t/\f t<18446744073709551616)->Up f n->cQ eps f n L->∀ i,i<L.length->(L.getD i []).length<=n:=by
 intro L;induction L with
 | nil=>intro f n _ _ _ _ i hi;simp at hi
 | cons l r ih =>
  intro f n n1 bd u h i hi;obtain ⟨a,b,c⟩:=h;have ln:=b.len n1 bd;cases i with
  | zero=>show l.length<=n;omega
  | succ i =>
   by_cases q:l.length=1
   ·rw [if_pos q] at c;subst c;simp at hi
   ·rw [if_neg q] at c
    obtain ⟨u1,_,u3⟩:=nF u (b.tiles n1 bd) (b.keys n1 bd);have:=ih (by omega) (zE bd u3) u1 c i (by simpa using hi)
    show (r.getD i []).length<=n;omega
end Go.Proofs.YtcboobmfnmgldaaGreat
namespace Go.Proofs.YtcboobmfnmgldaaGreat
open Go.RowKit
attribute [local go_sem] iy
def da (s:Sg):List Value:=[By s.k,.float .f64 s.sl,.float .f64 s.ic,AI s.fr,AI s.te]
theorem Md:∀ (l:List Sg) (i:Nat),i<l.length->∀ j,j<5->(l.flatMap da)[i*5+j]?=(da (l.getD i aK))[j]?:=by
 intro l;induction l with
 | nil=>intro i hi;simp at hi
 | cons s l ih =>
  intro i hi j hj;rw [List.flatMap_cons];have l5:(da s).length=5:=rfl;cases i with
  | zero =>
   rw [Nat.zero_mul,Nat.zero_add,List.getElem?_append_left (by rw [l5];exact hj)]
   rfl
  | succ i =>
   rw [List.getElem?_append_right (by rw [l5];omega),l5,show (i+1)*5+j-5=i*5+j by omega]
   exact ih i (by simpa using hi) j hj
end Go.Proofs.YtcboobmfnmgldaaGreat
