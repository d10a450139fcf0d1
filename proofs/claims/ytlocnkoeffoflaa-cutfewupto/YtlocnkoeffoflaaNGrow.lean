/- A region that draws its order and whose callees only make new memory is walked once, in the order of the text. -/
import Derived.Test.YtlocnkoeffoflaaNBase
import Derived.Deep.QuietTactic
import Derived.BigQuiet
namespace Go.Proofs.Ytlocnkoeffoflaa
open Go.RowKit

/-- A world that has grown out of W. -/
def GW (W : World) : Type := { w' : World // Gb W w' }
theorem GW.cell {W : World} {b o : Nat} {v : Value} (h : W.cell? ⟨b, o, none⟩ = some v) (hb : b < W.heap.size) : ∀ g : GW W, g.1.cell? ⟨b, o, none⟩ = some v :=
  fun g => (g.2.cell b o hb).trans h

theorem GW.some (W : World) : Nonempty (GW W) := ⟨⟨W, Gb.refl W⟩⟩

theorem wp_region_grow {P : Program} {id : Nat} {Q : Exit → Act → World → Prop} {a : Act} {w : World} {l : List Oper} (hm : P.follows .mixedOrders = true) (hB : Region.lexB .any l.toArray = true)
    (h : wpQuiet P l.toArray (fun w' => ∃ g : GW w, w' = g.1) (fun a' => ∀ w', (∃ g : GW w, w' = g.1) → Q .normal a' w') l a) : (Code.region id l.toArray true).wp P Q a w :=
  wp_region_quiet (C := fun w' => ∃ g : GW w, w' = g.1) hm hB ⟨⟨_, (Gb.refl w).drew⟩, rfl⟩ (by simpa using h)

/-- A callee's contract, met in such a world. -/
theorem grow_of {P : Program} {f : FuncId} {args : Array Value} {W : World} {g : GW W} {v : Value}
    (h : Calls P f args g.1 fun e w' => e = .returned v ∧ Gb g.1 w') : Calls P f args g.1 fun e w'' => e = .returned v ∧ ∃ g' : GW W, w'' = g'.1 :=
  h.mono fun _ _ ⟨he, hm⟩ => ⟨he, ⟨_, g.2.trans hm⟩, rfl⟩
theorem grow_ofk {P : Program} {f : FuncId} {args : Array Value} {W : World} {g : GW W} {v : Value} {k : Nat}
    (h : Calls P f args g.1 fun e w' => e = .returned v ∧ Gk k g.1 w') : Calls P f args g.1 fun e w'' => e = .returned v ∧ ∃ g' : GW W, w'' = g'.1 :=
  grow_of (h.mono fun _ _ ⟨he, hm⟩ => ⟨he, hm.gb⟩)

theorem H2.drew {w : World} {b : Nat} {u v : Value} (h : H2 w b u v) : H2 w.drew b u v := ⟨h.lt, h.c0, h.c1⟩
theorem H2.set {w : World} {b : Nat} {u v u' v' : Value} (h : H2 w b u v) : H2 ((w.setCell ⟨b, 0, none⟩ u').setCell ⟨b, 1, none⟩ v') b u' v' := by
  refine ⟨by simpa [World.setCell] using h.lt, ?_, ?_⟩ <;> simp [go_sem, h.c0, h.c1]

end Go.Proofs.Ytlocnkoeffoflaa
