/- The document's Of of layer 5. -/
import Derived.Test.YtapjipinceoaoaaMROf
import Derived.Test.YtapjipinceoaoaaL5Of
import Derived.Test.YtapjipinceoaoaaL5Down
namespace Go.Proofs.Ytapjipinceoaoaa

theorem o5c : Of5C := fun eps ao n cp f p0 p1 hn w h => of5_any down_any eps ao n cp f p0 p1 hn w h

end Go.Proofs.Ytapjipinceoaoaa
