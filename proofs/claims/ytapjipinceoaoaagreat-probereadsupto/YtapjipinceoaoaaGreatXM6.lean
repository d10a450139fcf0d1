/- The document's Of of layer 5. -/
import Derived.Test.YtapjipinceoaoaaGreatMROf
import Derived.Test.YtapjipinceoaoaaGreatL5Of
import Derived.Test.YtapjipinceoaoaaGreatL5Down
namespace Go.Proofs.YtapjipinceoaoaaGreat

theorem o5c : Of5C := fun eps ao n cp f p0 p1 hn w h => of5_any down_any eps ao n cp f p0 p1 hn w h

end Go.Proofs.YtapjipinceoaoaaGreat
