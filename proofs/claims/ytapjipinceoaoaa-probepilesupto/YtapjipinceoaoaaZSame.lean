/- Two paths alike: the helper of layer 9's statements. -/
import Derived.Test.YtapjipinceoaoaaZMem
namespace Go.Proofs.Ytapjipinceoaoaa
open Go.RowKit
set_option linter.unusedVariables false


end Go.Proofs.Ytapjipinceoaoaa
