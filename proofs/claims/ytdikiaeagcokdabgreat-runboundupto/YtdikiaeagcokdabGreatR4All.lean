/- The document's Add, every key. -/
import Derived.Test.YtdikiaeagcokdabGreatR4Add
namespace Go.Proofs.YtdikiaeagcokdabGreat
open Go.RowKit
set_option linter.unusedVariables false




end Go.Proofs.YtdikiaeagcokdabGreat
