/- The document's Find of layer 9. -/
import Derived.Test.YtapjipinceoaoaaZRef
namespace Go.Proofs.Ytapjipinceoaoaa
open Go.RowKit
set_option linter.unusedVariables false


end Go.Proofs.Ytapjipinceoaoaa
