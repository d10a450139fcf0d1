import Derived.Deep.DeepCutAuto
import Derived.Test.YtaemofgeciklkaaGreatEPFg
set_option linter.unusedVariables false
namespace Go.Proofs.YtaemofgeciklkaaGreat
open Go.RowKit
attribute [local go_sem] iV
def jV (eps:Int) (f:Nat->Int) (n:Nat) (L:List (List Sg)) (E:Int):Prop :=
 (¬ (2<=eps/\eps<=64)/\E=1)\/((2<=eps/\eps<=64)/\¬ Up f n/\E=80)\/((2<=eps/\eps<=64)/\Up f n/\¬ ((L.length:Int)<=oo 4294967296 eps/\(L.length=0↔n=0))/\E=81)\/((2<=eps/\eps<=64)/\Up f n/\((L.length:Int)<=oo 4294967296 eps/\(L.length=0↔n=0))/\E=mX eps f n L)
variable {eps:Int} {f:Nat->Int} {n:Nat}
theorem jV.one {L:List (List Sg)} {E E':Int} (h:jV eps f n L E) (h':jV eps f n L E'):E=E':=by
 rcases h with ⟨a,rfl⟩ | ⟨a,b,rfl⟩ | ⟨a,b,c,rfl⟩ | ⟨a,b,c,rfl⟩<;>rcases h' with ⟨a',rfl⟩ | ⟨a',b',rfl⟩ | ⟨a',b',c',rfl⟩ | ⟨a',b',c',rfl⟩<;>first
  | rfl
  | exact absurd a a'
  | exact absurd a' a
  | exact absurd b b'
  | exact absurd b' b
  | exact absurd c c'
  | exact absurd c' c
theorem abF {L:List (List Sg)} {i:Nat} (h:i<L.length):L.drop i=L.getD i []::L.drop (i+1):=by rw [List.drop_eq_getElem_cons h,qag,qah h];rfl
theorem Gr {w:World} {bk off a b:Nat} (h:KS w (some (φ bk off)) n f) (hb:b<=n):KS w (some (φ bk (off+a))) (b-a) (sh f a) :=
 ⟨fun h0=>by
  obtain ⟨b',o',e,hl,hc⟩:=h.cells ω;cases e;exact ⟨bk,off+a,rfl,hl,fun i hi=>by rw [Nat.add_assoc];exact hc (a+i) ω⟩,fun i hi=>h.bd (a+i) ω⟩
def Bo (eps:Int) (l:List Sg) (r:List (List Sg)):Int:=if r=[] then (if l.length=1 then 0 else 84) else mX eps (bu l) l.length r
theorem OQ {l:List Sg} {r:List (List Sg)}:mX eps f n (l::r)=if (dK n 0 l&&!l.isEmpty)=false then 82 else if eR eps f l≠0 then eR eps f l else Bo eps l r:=rfl
theorem abG {s:Sg} {l:List Sg}:eR eps f (s::l)=if jU eps f s≠0 then jU eps f s else eR eps f l:=rfl
end Go.Proofs.YtaemofgeciklkaaGreat
namespace Go.Proofs.YtaemofgeciklkaaGreat
open Go.RowKit
def qX (eps:Int) (f:Nat->Int) (n:Nat) (L:List (List Sg)) (err:Int):Prop :=
 (¬ (2<=eps/\eps<=64)/\L=[]/\err=1)\/((2<=eps/\eps<=64)/\¬ Up f n/\L=[]/\err=80)\/((2<=eps/\eps<=64)/\Up f n/\du eps f n L/\err=0)
def abH (ex:Ending) (eps:Int) (f:Nat->Int) (n:Nat) (L:List (List Sg)):Prop:=∃ E,ex=χ (By E)/\jV eps f n L E
def ou (L:List (List Sg)):Prop:=L.length<=2000000/\∀ i,i<L.length->(L.getD i []).length<=2000000
variable {eps:Int}
theorem du.short:∀ {L:List (List Sg)} {f:Nat->Int} {n:Nat},n<=2000000->(∀ t,t<n->0<=f t/\f t<18446744073709551616)->Up f n->du eps f n L->∀ i,i<L.length->(L.getD i []).length<=n:=by
 intro L;induction L with
 | nil=>intro f n _ _ _ _ i hi;simp at hi
 | cons l r ih =>
  intro f n n1 bd u h i hi;obtain ⟨a,b,c⟩:=h;have ln:=b.len n1 bd;cases i with
  | zero=>show l.length<=n;omega
  | succ i =>
   by_cases q:l.length=1
   ·rw [Ym q] at c;subst c;simp at hi
   ·rw [Yl q] at c
    obtain ⟨u1,_,u3⟩:=pE u (b.tiles n1 bd) (b.keys n1 bd);have:=ih ω (Bk bd u3) u1 c i (by simpa using hi)
    show (r.getD i []).length<=n;omega
end Go.Proofs.YtaemofgeciklkaaGreat
namespace Go.Proofs.YtaemofgeciklkaaGreat
open Go.RowKit
attribute [local go_sem] iV
def dc (s:Sg):List Value:=[BY s.k,.float .f64 s.sl,.float .f64 s.ic,By s.fr,By s.te]
theorem Bp:∀ (l:List Sg) (i:Nat),i<l.length->∀ j,j<5->(l.flatMap dc)[i*5+j]?=(dc (l.getD i aF))[j]?:=by
 intro l;induction l with
 | nil=>intro i hi;simp at hi
 | cons s l ih =>
  intro i hi j hj;rw [qaK];have l5:(dc s).length=5:=rfl;cases i with
  | zero =>
   rw [qaR,qai,qau (by rw [l5];exact hj)]
   rfl
  | succ i =>
   rw [qaZ (by rw [l5];omega),l5,show (i+1)*5+j-5=i*5+j by omega]
   exact ih i (by simpa using hi) j hj
