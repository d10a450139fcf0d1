/- The document's Of, over what its 'down' does. -/
import Derived.Deep.CondSized
import Derived.Deep.RegionWith
import Derived.Test.YtemijdhemdhclaaGreatNR4Add
set_option linter.unusedVariables false
namespace Go.Proofs.YtemijdhemdhclaaGreat
open Go.RowKit
def OfOut (ex:Ending) (eps:Int) (f:Nat->Int) (n:Nat):Prop:=∃ a b c err:Int,ex=.returned (.tuple #[.agg #[.int .u64 a,.int .u64 b,.int .i64 c],.int .i64 err])/\OfR eps f n a b c err/\(0<=a/\a<18446744073709551616)/\(0<=b/\b<18446744073709551616)/\(-9223372036854775808<=c/\c<9223372036854775808)
def Ln (w:World) (b:Nat) (x y z:Int):Prop:=w.heap[b]?=some (.cells #[.int .u64 x,.int .u64 y,.int .i64 z] 194 (0,0))
theorem Ln.lt {w:World} {b:Nat} {x y z:Int} (h:Ln w b x y z):b<w.heap.size:=(Array.getElem?_eq_some_iff.1 h).1
theorem Ln.c0 {w:World} {b:Nat} {x y z:Int} (h:Ln w b x y z):w.cell? ⟨b,0,none⟩=some (.int .u64 x):=by unfold Ln at h;simp [World.cell?,h]
theorem Ln.c1 {w:World} {b:Nat} {x y z:Int} (h:Ln w b x y z):w.cell? ⟨b,1,none⟩=some (.int .u64 y):=by unfold Ln at h;simp [World.cell?,h]
theorem Ln.c2 {w:World} {b:Nat} {x y z:Int} (h:Ln w b x y z):w.cell? ⟨b,2,none⟩=some (.int .i64 z):=by unfold Ln at h;simp [World.cell?,h]
theorem Ln.fz {w:World} {b:Nat} {x y z:Int} (h:Ln w b x y z) (o:Nat):w.frozen? ⟨b,o,none⟩=false:=by unfold Ln at h;simp [World.frozen?,h]
theorem Ln.gw {w w':World} {b:Nat} {x y z:Int} (h:Ln w b x y z) (g:Gw w w'):Ln w' b x y z:=(g.below.block b h.lt).trans h
end Go.Proofs.YtemijdhemdhclaaGreat
