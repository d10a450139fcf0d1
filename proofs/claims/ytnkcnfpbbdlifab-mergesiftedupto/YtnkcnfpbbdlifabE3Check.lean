/- Package keys at entries: how far they rise, what is wrong with them, how many live. -/
import Derived.Test.YtnkcnfpbbdlifabE3Base
import Derived.Test.YtnkcnfpbbdlifabKPlain
import Derived.Deep.LoopGhost
namespace Go.Proofs.Ytnkcnfpbbdlifab
open Go.RowKit
set_option linter.unusedVariables false




/-- A tombstone with a value. -/
def Bad (v : Nat → Int) (g : Nat → Bool) (j : Nat) : Prop := g j = true ∧ v j ≠ 0

theorem bad_and {v : Nat → Int} {g : Nat → Bool} {j : Nat} : (g j && (v j != 0)) = true ↔ Bad v g j := by simp [Bad]



theorem ES.take {w : World} {ao : Option Addr} {n : Nat} {k v : Nat → Int} {g : Nat → Bool} (h : ES w ao n k v g) {m : Nat} (hm : m ≤ n) : ES w ao m k v g :=
  ⟨fun hn => by
    obtain ⟨b, off, e, hb, hc⟩ := h.cells (by omega)
    exact ⟨b, off, e, hb, fun i hi => hc i (by omega)⟩, fun i hi => h.bd i (by omega)⟩



end Go.Proofs.Ytnkcnfpbbdlifab
