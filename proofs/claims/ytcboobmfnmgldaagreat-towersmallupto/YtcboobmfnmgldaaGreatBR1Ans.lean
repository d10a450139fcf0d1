/- Layer 11's statements' answers: a run is asked, and the document's. -/
import Derived.Laws.StructEq
import Derived.StillTailTactics
import Derived.Test.YtcboobmfnmgldaaGreatBVBuild
set_option linter.unusedVariables false
namespace Go.Proofs.YtcboobmfnmgldaaGreat
open Go.RowKit
attribute [local go_sem] iy Dm
structure aT (W0:World) (l:List (Nat×Array Value×TypeId)) (W:World):Prop where
 gw0:Gw W0 W
 lie:∀ x∈l,W.heap[x.1]?=some (.cells x.2.1 x.2.2 (0,0))
variable {W0 W:World}
theorem aT.nil (g:Gw W0 W):aT W0 [] W:=⟨g,fun x h=>by cases h⟩
theorem aT.gw {W':World} {l:List (Nat×Array Value×TypeId)} (h:aT W0 l W) (g:Gw W W'):aT W0 l W' :=
 ⟨h.gw0.trans g,fun x hx=>(g.below.block x.1 (Array.getElem?_eq_some_iff.1 (h.lie x hx)).1).trans (h.lie x hx)⟩
theorem aT.add {l:List (Nat×Array Value×TypeId)} (h:aT W0 l W) (c:Array Value) (t:TypeId):aT W0 ((W.heap.size,c,t)::l) (W.alloc (.cells c t)) :=
 ⟨h.gw0.alloc _ _,fun x hx=>by
  rcases List.mem_cons.1 hx with rfl | hx
  ·exact heap_alloc_new W _
  ·exact (h.gw ((Gw.refl W).alloc c t)).lie x hx⟩
end Go.Proofs.YtcboobmfnmgldaaGreat
