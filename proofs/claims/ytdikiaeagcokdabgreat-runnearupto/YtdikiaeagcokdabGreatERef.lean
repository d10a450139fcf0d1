/- The document's Ends. -/
import Derived.Test.YtdikiaeagcokdabGreatEBase
import Derived.Test.YtdikiaeagcokdabGreatPBs
namespace Go.Proofs.YtdikiaeagcokdabGreat
open Go.RowKit
set_option linter.unusedVariables false

/-- What Ends answers: a row of the call's own. -/
def EndsOut (base : Nat) (w' : World) (ex : Ending) (eps : Int) (f : Nat → Int) (n : Nat) : Prop := ∃ v l err, ex = .returned (.tuple #[v, .int .i64 err]) ∧ EndsR eps f n l err ∧ IR w' base v l


end Go.Proofs.YtdikiaeagcokdabGreat
