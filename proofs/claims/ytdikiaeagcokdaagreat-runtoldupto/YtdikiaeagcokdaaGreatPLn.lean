import Derived.Test.YtdikiaeagcokdaaGreatPBs
import Derived.Deep.DeepCutAuto
import Derived.Deep.RegionWith
import Derived.Deep.CondSized
/- The document's At, over what its 'down' does. -/
namespace Go.Proofs.YtdikiaeagcokdaaGreat
open Go.RowKit
set_option linter.unusedVariables false

/-- What 'down' does. -/
def DownC : Prop := ∀ (a b c d : Int), 0 ≤ a → a < 18446744073709551616 → 0 < b → b < 18446744073709551616 → 0 ≤ d → d < 18446744073709551616 → ∀ w : World,
    Calls Tryz.prog 103 #[.agg #[.int .u64 a, .int .u64 b, .int .i64 c], .int .u64 d] w fun ex w' => ex = .returned (.tuple #[.int .i64 (if 2305843009213693952 < a * d / b then 0 else a * d / b), .bool (!decide (2305843009213693952 < a * d / b))]) ∧ Gw w w'


end Go.Proofs.YtdikiaeagcokdaaGreat

/- The document's Fits, over what its 'down' does. -/
namespace Go.Proofs.YtdikiaeagcokdaaGreat
open Go.RowKit
set_option linter.unusedVariables false

/-- A call that tells whether P. -/
def Tells (ex : Ending) (P : Prop) : Prop := ∃ r : Bool, ex = .returned (.bool r) ∧ (r = true ↔ P)
theorem Tells.no {P : Prop} (h : ¬ P) : Tells (.returned (.bool false)) P := ⟨false, rfl, by simpa using h⟩


end Go.Proofs.YtdikiaeagcokdaaGreat
