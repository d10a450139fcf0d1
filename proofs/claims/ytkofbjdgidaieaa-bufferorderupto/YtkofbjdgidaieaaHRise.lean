/- The document's own Rising. -/
import Derived.Test.YtkofbjdgidaieaaHBase
namespace Go.Proofs.Ytkofbjdgidaieaa
open Go.RowKit
set_option linter.unusedVariables false



end Go.Proofs.Ytkofbjdgidaieaa
