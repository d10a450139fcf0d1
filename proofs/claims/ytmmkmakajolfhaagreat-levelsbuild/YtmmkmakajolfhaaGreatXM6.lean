/- The document's Of of layer 5. -/
import Derived.Test.YtmmkmakajolfhaaGreatMROf
import Derived.Test.YtmmkmakajolfhaaGreatL5Of
import Derived.Test.YtmmkmakajolfhaaGreatL5Down
namespace Go.Proofs.YtmmkmakajolfhaaGreat

theorem o5c : Of5C := fun eps ao n cp f p0 p1 hn w h => of5_any down_any eps ao n cp f p0 p1 hn w h

end Go.Proofs.YtmmkmakajolfhaaGreat
