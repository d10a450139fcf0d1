/- Package line's At, over what its 'climb' does. -/
import Derived.Test.YtdikiaeagcokdaaGreatPBs
namespace Go.Proofs.YtdikiaeagcokdaaGreat
open Go.RowKit
set_option linter.unusedVariables false

/-- 'climb' refuses. -/
abbrev ClimbBad (a b d : Int) : Prop := b = 0 ∨ 2305843009213693952 < a * d / b

/-- What 'climb' does. -/
def ClimbC : Prop := ∀ (a b c d : Int), 0 ≤ a → a < 18446744073709551616 → 0 ≤ b → b < 18446744073709551616 → 0 ≤ d → d < 18446744073709551616 → ∀ w : World,
    Calls Tryz.prog 136 #[.agg #[.int .u64 a, .int .u64 b, .int .i64 c], .int .u64 d] w fun ex w' => ex = .returned (.tuple #[.int .i64 (if ClimbBad a b d then 0 else a * d / b), .bool (!decide (ClimbBad a b d))]) ∧ Gw w w'


end Go.Proofs.YtdikiaeagcokdaaGreat
