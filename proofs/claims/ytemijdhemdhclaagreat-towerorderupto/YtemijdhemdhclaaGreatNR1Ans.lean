/- Layer 11's statements' answers: a run is asked, and the document's. -/
import Derived.Laws.StructEq
import Derived.StillTailTactics
import Derived.Test.YtemijdhemdhclaaGreatNVBuild
set_option linter.unusedVariables false
namespace Go.Proofs.YtemijdhemdhclaaGreat
open Go.RowKit
attribute [local go_sem] run_store_float f64bits
structure Bxs (W0:World) (l:List (Nat×Array Value×TypeId)) (W:World):Prop where
 gw0:Gw W0 W
 lie:∀ x∈l,W.heap[x.1]?=some (.cells x.2.1 x.2.2 (0,0))
theorem Bxs.nil {W0 W:World} (g:Gw W0 W):Bxs W0 [] W:=⟨g,fun x h=>by cases h⟩
theorem Bxs.gw {W0 W W':World} {l:List (Nat×Array Value×TypeId)} (h:Bxs W0 l W) (g:Gw W W'):Bxs W0 l W' :=
 ⟨h.gw0.trans g,fun x hx=>(g.below.block x.1 (Array.getElem?_eq_some_iff.1 (h.lie x hx)).1).trans (h.lie x hx)⟩
theorem Bxs.add {W0 W:World} {l:List (Nat×Array Value×TypeId)} (h:Bxs W0 l W) (c:Array Value) (t:TypeId):Bxs W0 ((W.heap.size,c,t)::l) (W.alloc (.cells c t)) :=
 ⟨h.gw0.alloc _ _,fun x hx=>by
  rcases List.mem_cons.1 hx with rfl | hx
  ·exact heap_alloc_new W _
  ·exact (h.gw ((Gw.refl W).alloc c t)).lie x hx⟩
end Go.Proofs.YtemijdhemdhclaaGreat
