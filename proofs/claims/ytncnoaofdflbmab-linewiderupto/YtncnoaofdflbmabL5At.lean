/- The document's At, over what its 'down' does. -/
import Derived.Test.YtncnoaofdflbmabHBase
import Derived.Test.YtncnoaofdflbmabLPlain
namespace Go.Proofs.Ytncnoaofdflbmab
open Go.RowKit
set_option linter.unusedVariables false

/-- What 'down' does. -/
def DownC : Prop := ∀ (a b c d : Int), 0 ≤ a → a < 18446744073709551616 → 0 < b → b < 18446744073709551616 → 0 ≤ d → d < 18446744073709551616 → ∀ w : World,
    Calls Try.prog 19 #[.agg #[.int .u64 a, .int .u64 b, .int .i64 c], .int .u64 d] w fun ex w' => ex = .returned (.tuple #[.int .i64 (if 2305843009213693952 < a * d / b then 0 else a * d / b), .bool (!decide (2305843009213693952 < a * d / b))]) ∧ Gw w w'


end Go.Proofs.Ytncnoaofdflbmab
