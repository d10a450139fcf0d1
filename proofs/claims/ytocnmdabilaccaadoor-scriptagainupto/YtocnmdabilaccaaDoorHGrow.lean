/- A region that draws its order and whose callees only make new memory is walked once, in the order of the text. -/
import Derived.Test.YtocnmdabilaccaaDoorHBase
import Derived.Deep.QuietTactic
import Derived.BigQuiet
namespace Go.Proofs.YtocnmdabilaccaaDoor
open Go.RowKit

/-- A world that has grown out of W. -/
def GX (W : World) : Type := { w' : World // Gw W w' }
theorem GX.cell {W : World} {b o : Nat} {v : Value} (h : W.cell? ⟨b, o, none⟩ = some v) (hb : b < W.heap.size) : ∀ g : GX W, g.1.cell? ⟨b, o, none⟩ = some v :=
  fun g => (g.2.cell b o hb).trans h

theorem GX.gw {W : World} (g : GX W) : Gw W g.1 := g.2
theorem GX.some (W : World) : Nonempty (GX W) := ⟨⟨W, Gw.refl W⟩⟩

theorem wp_region_growx {P : Program} {id : Nat} {Q : Exit → Act → World → Prop} {a : Act} {w : World} {l : List Oper} (hm : P.follows .mixedOrders = true) (hB : Region.lexB .any l.toArray = true)
    (h : wpQuiet P l.toArray (fun w' => ∃ g : GX w, w' = g.1) (fun a' => ∀ w', (∃ g : GX w, w' = g.1) → Q .normal a' w') l a) : (Code.region id l.toArray true).wp P Q a w :=
  wp_region_quiet (C := fun w' => ∃ g : GX w, w' = g.1) hm hB ⟨⟨_, (Gw.refl w).drew⟩, rfl⟩ (by simpa using h)

/-- A callee's contract, met in such a world. -/
theorem growx_of {P : Program} {f : FuncId} {args : Array Value} {W : World} {g : GX W} {v : Value}
    (h : Calls P f args g.1 fun e w' => e = .returned v ∧ Gw g.1 w') : Calls P f args g.1 fun e w'' => e = .returned v ∧ ∃ g' : GX W, w'' = g'.1 :=
  h.mono fun _ _ ⟨he, hm⟩ => ⟨he, ⟨_, g.2.trans hm⟩, rfl⟩
end Go.Proofs.YtocnmdabilaccaaDoor
