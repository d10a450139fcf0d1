/- Package line's iterator: the rank of each key, and its distance from the first one. Package line's least Base, over what its 'climb' does. -/
import Derived.LoopIn
import Derived.LoopNIn
import Derived.OwnWalkIn
import Derived.RangeFuncBound
import Derived.RangeFuncCalls
import Derived.RangeFuncLeaves
import Derived.RangeFuncNested
import Derived.Shelf.Abstract
import Derived.TacticsInMore
import Derived.Test.YtpoohadckhphpaaGreatBPBs
set_option linter.unusedVariables false
namespace Go.Proofs.YtpoohadckhphpaaGreat
open Go.RowKit Go.Shelf
attribute [local go_sem] Oper.semAt_some
def pair (f:Nat->Int) {n:Nat} (x:Fin n):Array Value:=#[.int .i64 ((x.1:Nat):Int),.int .u64 (f x.1-f 0)]
def Firsts {n:Nat} (k:Nat) (l:List (Fin n)):Prop:=l.length=k/\∀ i (h:i<l.length),(l[i]).1=i
end Go.Proofs.YtpoohadckhphpaaGreat
namespace Go.Proofs.YtpoohadckhphpaaGreat
open Go.RowKit Go.Shelf
attribute [local go_sem] Oper.semAt_some
end Go.Proofs.YtpoohadckhphpaaGreat
