import Derived.Test.YtdikiaeagcokdabGreatPBs
import Derived.Deep.DeepCutAuto
import Derived.Deep.RegionWith
import Derived.Deep.CondSized
/- The document's At, over what its 'down' does. -/
namespace Go.Proofs.YtdikiaeagcokdabGreat
open Go.RowKit
set_option linter.unusedVariables false



end Go.Proofs.YtdikiaeagcokdabGreat

/- The document's Fits, over what its 'down' does. -/
namespace Go.Proofs.YtdikiaeagcokdabGreat
open Go.RowKit
set_option linter.unusedVariables false

/-- A call that tells whether P. -/
def Tells (ex : Ending) (P : Prop) : Prop := ∃ r : Bool, ex = .returned (.bool r) ∧ (r = true ↔ P)
theorem Tells.no {P : Prop} (h : ¬ P) : Tells (.returned (.bool false)) P := ⟨false, rfl, by simpa using h⟩


end Go.Proofs.YtdikiaeagcokdabGreat
