/- The document's own Rising. -/
import Derived.Test.YthkahedhmfkhhaaHBase
namespace Go.Proofs.Ythkahedhmfkhhaa
open Go.RowKit
set_option linter.unusedVariables false



end Go.Proofs.Ythkahedhmfkhhaa
